import PyProof.Rows.All
import Wide.All
import OpenK.AllK
import Wide.FinOn
import HandS.ForMost
import HandS.Exc
import HandS.TryOnly
import HandS.ExcOwn
import HandS.WordsExc
import HandS.Wide
import HandS.Walk
import HandS.Codes
import HandS.Star
import HandS.MakeKw
import HandS.ExcCtx
import HandS.ClsMeth
import KE.KCallOwn
import KE.KUnpackStar
import HandS.NoneIn
import KE.GoesZip
import KE.GoesMore
import HandS.Zip
import HandS.Words
import KE.KFmtOwn
import PyProof.InstEq
import HandS.IterVal
import HandS.OwnIter
import KE.KOwnIter
import HandS.DictComp
import HandS.Text
import HandS.List
import PyProof.Rows.StrStep
import HandS.Strs
import HandS.SetKeys
import HandS.SortRule
import HandS.SetFor
import PyProof.Rows.Range3
import KE.KOpsOwn
import HandS.Small
import HandS.TupAny
import PyProof.Rows.TupMore
import HandS.IsInst
import HandS.FStr
import HandS.Style
import PyProof.ExcBaseAll.ValueError
import PyProof.ExcBaseAll.LookupError
import PyProof.ExcBaseAll.RuntimeError
import KE.KExcInit
import HandS.ExcInit
import HandS.HotCalls
import HandS.ExcIs
import HandS.ExcField
import HandS.Comp
import HandS.Iter
import HandS.Ends
import HandS.HeadEnd
import PyProof.ReprRoads
import HandS.Head0
import HandS.Head1
import HandS.Head2
import HandS.HeadHook1
import HandS.HeadHook2
import HandS.HeadNt
import PySem.Challenge.RW_latequestions_k51_mends_as_sets
set_option Elab.async false
set_option linter.all false
set_option maxRecDepth 100000
set_option maxHeartbeats 4000000
namespace Lq
open PySem L2
def topS (i : Nat) : Stmt := PySem.Challenge.pw_latequestions_k51_mends_as_sets.main.body.getD i (.Pass ⟨0, 0, 0, 0⟩)
abbrev sBag : Stmt := topS 7
abbrev sDraw : Stmt := topS 8
abbrev sOne : Stmt := topS 9
/-- a bag: what is left of the great number, the turns, the seed -/
structure Bag (g c s : Int) : Prop where
  g0 : 0 ≤ g
  c0 : 0 ≤ c
  c1 : c ≤ 1000
  s0 : 0 ≤ s
  s1 : s < 4611686018427387904
def bagL (g c s : Int) : List V := [.int g, .int c, .int s]
/-- the bag at a goes on by at most n turns, the rest of the heap stays -/
def Mv (H : Hp) (a : Addr) (c s : Int) (n : Int) (H' : Hp) : Prop := ∃ g' c', Bag g' c' s ∧ c' ≤ c + n ∧ H' a = some (.lst (bagL g' c' s)) ∧ ∀ p o, H p = some o → p ≠ a → H' p = some o
def spDraw : Sp := fun vs H Q _ => ∃ (a : Addr) (g c s many : Int), vs = [.ref a, .int many] ∧ H a = some (.lst (bagL g c s)) ∧ Bag g c s ∧ c < 1000 ∧ 0 < many ∧ many.natAbs < 2 ^ 200 ∧
  ∀ (r : Int) (H' : Hp), 0 ≤ r → r < many → Mv H a c s 1 H' → Q (.int r) H'
section
variable {P : Program} {w : World} {K : PySem.W.Frag} {mg : Str → Option Value} {base : Heap}
theorem same_new {H : Hp} {p : Addr} {o : HO} (h : H p = none) : Same H (upd H p o) := fun b u z => by
  rw [upd_ne (ne_of_none z h)]
  exact z
theorem mv_upd {H : Hp} {a : Addr} {g c s g' c' n : Int} (h : H a = some (.lst (bagL g c s))) (B : Bag g' c' s) (l : c' ≤ c + n) : Mv H a c s n (upd H a (.lst (bagL g' c' s))) := ⟨g', c', B, l, upd_same, fun p o z n => by rw [upd_ne n]; exact z⟩
theorem scDraw : FnScope ["bag", "many", "digit", "mixed"] ["bag", "many"] (defScope sDraw) := ⟨rfl, rfl, rfl, by decide +kernel, rfl, by decide +kernel, by decide +kernel⟩
theorem ok_draw {f : Addr} {fd : FuncData} (F : Fun K "_law_draw" "_law_draw" sDraw f fd) (hint : mg "int" = none) : FnOk P w K mg base CX0 1 f fd ["bag", "many"] spDraw := by
  refine F.ok scDraw (fun vs H Q E h => ?_) (fun cdv A outer s H vs Q E hr h => ?_)
  · obtain ⟨a, g, c, s, many, rfl, _⟩ := h
    rfl
  · obtain ⟨a, g, c, sd, many, rfl, ha, S, hc, hm0, hm1, k⟩ := h
    refine ⟨_, pss_cons (ps_if (pt_cmpR op_gt (pe_ix ix_list (pv 0) pe_int (fun _ _ => rfl)) pe_int (nomark _))
        (pss_cons (ps_set (i := 2) scDraw.nd rfl (Or.inl rfl) (pe_op op_mod (pe_callTy call_int1 (by rfl) hint PyProof.Rows.boot_int (pa_cons (pe_ix ix_list (pv 0) pe_int (fun _ _ => rfl)) pa_nil)) (pv 1)))
        (pss_cons (ps_asg (pe_op op_fdivW (pe_ix ix_list (pv 0) pe_int (fun _ _ => rfl)) (pv 1)) (pg_sub (pv 0) pe_int set_list))
        (pss_one (ps_ret (pv 2))))) pss_nil)
      (pss_cons (ps_asg (pe_op op_add (pe_ix ix_list (pv 0) pe_int (fun _ _ => rfl)) pe_int) (pg_sub (pv 0) pe_int set_list))
      (pss_cons (ps_set (i := 3) scDraw.nd rfl (Or.inl rfl) (pe_op op_mod (pe_callTy call_int1 (by rfl) hint PyProof.Rows.boot_int (pa_cons (pe_op op_pow (pe_op op_add (pe_ix ix_list (pv 0) pe_int (fun _ _ => rfl)) (pe_op op_mul pe_int (pe_ix ix_list (pv 0) pe_int (fun _ _ => rfl)))) pe_int) pa_nil)) pe_int))
      (pss_cons (ps_set (i := 3) scDraw.nd rfl (Or.inl rfl) (pe_op op_mod (pe_callTy call_int1 (by rfl) hint PyProof.Rows.boot_int (pa_cons (pe_op op_pow (pe_op op_add (pv 3) (pe_op op_mul pe_int (pe_ix ix_list (pv 0) pe_int (fun _ _ => rfl)))) pe_int) pa_nil)) pe_int))
      (pss_one (ps_ret (pe_op op_mod (pe_callTy call_int1 (by rfl) hint PyProof.Rows.boot_int (pa_cons (pe_op op_fdiv (pv 3) pe_int) pa_nil)) (pv 1))))))), ?_⟩
    have e0 : atI (bagL g c sd) 0 = some (V.int g) := rfl
    have S0 := S.s0
    have S1 := S.s1
    have C0 := S.c0
    refine ⟨_, rfl, a, _, _, _, rfl, rfl, SqL.of ha, e0, _, _, rfl, rfl, _, rfl, ?_⟩
    refine ite2 (fun hg => ?_) (fun hg => ?_)
    · refine ⟨_, rfl, a, _, _, _, rfl, rfl, SqL.of ha, e0, .inl ⟨_, rfl, _, rfl, _, _, rfl, rfl, hm0, ?_⟩⟩
      refine ⟨_, rfl, a, _, _, _, rfl, rfl, SqL.of ha, e0, _, rfl, _, _, rfl, rfl, wide_div hm0 hm1 (by decide) (by decide), ?_⟩
      refine ⟨_, rfl, a, _, _, 0, rfl, rfl, ha, rfl, ?_⟩
      refine ⟨_, rfl, ?_⟩
      exact k (g % many) _ (Int.emod_nonneg _ (by omega)) (Int.emod_lt_of_pos _ hm0) (mv_upd (g' := g / many) (c' := c) ha ⟨Int.ediv_nonneg S.g0 (by omega), S.c0, S.c1, S.s0, S.s1⟩ (by omega))
    · refine ⟨_, rfl, a, _, _, _, rfl, rfl, SqL.of ha, (rfl : atI (bagL g c sd) 1 = some (V.int c)), _, _, rfl, rfl, ?_⟩
      refine ⟨_, rfl, a, _, _, 1, rfl, rfl, ha, rfl, ?_⟩
      have ha1 : upd H a (.lst (bagL g (c + 1) sd)) a = some (.lst (bagL g (c + 1) sd)) := upd_same
      refine ⟨_, rfl, a, _, _, _, rfl, rfl, SqL.of ha1, (rfl : atI (bagL g (c + 1) sd) 2 = some (V.int sd)), _, rfl, a, _, _, _, rfl, rfl, SqL.of ha1, (rfl : atI (bagL g (c + 1) sd) 1 = some (V.int (c + 1))), _, _, rfl, rfl, .inl ⟨by decide, by decide⟩, _, _, rfl, rfl, _, _, rfl, rfl, ⟨by decide, by decide, ?_⟩, .inl ⟨_, rfl, _, _, rfl, rfl, (by show (0 : Int) < 2305843009213693921; decide), ?_⟩⟩
      · show (sd + 15485863 * (c + 1)).natAbs < 2 ^ 64
        omega
      have x0 : 0 ≤ (sd + 15485863 * (c + 1)) ^ (3 : Int).toNat % 2305843009213693921 := Int.emod_nonneg _ (by decide)
      have x1 : (sd + 15485863 * (c + 1)) ^ (3 : Int).toNat % 2305843009213693921 < 2305843009213693921 := Int.emod_lt_of_pos _ (by decide)
      refine ⟨_, rfl, _, rfl, a, _, _, _, rfl, rfl, SqL.of ha1, (rfl : atI (bagL g (c + 1) sd) 1 = some (V.int (c + 1))), _, _, rfl, rfl, .inl ⟨by decide, by decide⟩, _, _, rfl, rfl, _, _, rfl, rfl, ⟨by decide, by decide, ?_⟩, .inl ⟨_, rfl, _, _, rfl, rfl, (by show (0 : Int) < 2305843009213693951; decide), ?_⟩⟩
      · show ((sd + 15485863 * (c + 1)) ^ (3 : Int).toNat % 2305843009213693921 + 49979687 * (c + 1)).natAbs < 2 ^ 64
        generalize (sd + 15485863 * (c + 1)) ^ (3 : Int).toNat % 2305843009213693921 = x at x0 x1 ⊢
        omega
      refine ⟨_, rfl, _, _, rfl, rfl, ⟨by decide, by decide⟩, .inl ⟨_, rfl, _, rfl, _, _, rfl, rfl, hm0, ?_⟩⟩
      exact k _ _ (Int.emod_nonneg _ (by omega)) (Int.emod_lt_of_pos _ hm0) (mv_upd (g' := g) (c' := c + 1) ha ⟨S.g0, by omega, by omega, S.s0, S.s1⟩ (by omega))
/-! _law_one(bag, some) -/
def spOne (K : PySem.W.Frag) : Sp := fun vs H Q _ => ∃ (a b : Addr) (g c s : Int) (xs : List V), vs = [.ref a, .ref b] ∧ H a = some (.lst (bagL g c s)) ∧ Bag g c s ∧ c < 1000 ∧ SqL K H b xs ∧ a ≠ b ∧ 0 < xs.length ∧ xs.length ≤ 1000 ∧
  ∀ (i : Nat) (v : V) (H' : Hp), xs[i]? = some v → Mv H a c s 1 H' → Q v H'
theorem scOne : FnScope ["bag", "some"] ["bag", "some"] (defScope sOne) := ⟨rfl, rfl, rfl, by decide +kernel, rfl, by decide +kernel, by decide +kernel⟩
theorem sq_mv {H H' : Hp} {a b : Addr} {c s n : Int} {xs : List V} (h : SqL K H b xs) (ne : a ≠ b) (k : Mv H a c s n H') : SqL K H' b xs := by
  obtain ⟨_, _, _, _, _, k⟩ := k
  rcases h with (h | ⟨u, h⟩) | h
  · exact .inl (.inl (k _ _ h (Ne.symm ne)))
  · exact .inl (.inr ⟨u, k _ _ h (Ne.symm ne)⟩)
  · exact .inr h
theorem ok_one {f fD : Addr} {fd fdD : FuncData} (F : Fun K "_law_one" "_law_one" sOne f fd) (GD : FnOk P w K mg base CX0 1 fD fdD ["bag", "many"] spDraw) (bD : Binds K fdD ["bag", "many"] []) (kD : PySem.W.keepIn K (.ref fD) = true)
    (mD : mg "_law_draw" = some (.ref fD)) (hlen : mg "len" = none) : FnOk P w K mg base CX0 2 f fd ["bag", "some"] (spOne K) := by
  refine F.ok scOne (fun vs H Q E h => ?_) (fun cdv A outer s H vs Q E hr h => ?_)
  · obtain ⟨a, b, g, c, s, xs, rfl, _⟩ := h
    rfl
  · obtain ⟨a, b, g, c, sd, xs, rfl, ha, S, hc, hb, ne, hl0, hl1, k⟩ := h
    refine ⟨_, pss_one (ps_ret (pe_ix ix_list (pv 1) (pe_call GD hr (by rfl) mD kD bD .nil pass0 (pa_cons (pv 0) (pa_cons (pe_callB call_len_seq (by rfl) hlen PySem.boot_len (pa_cons (pv 1) pa_nil)) pa_nil))) (fun _ _ => rfl))), ?_⟩
    refine ⟨_, rfl, _, rfl, _, rfl, b, _, rfl, .inl hb, ?_⟩
    refine ⟨a, g, c, sd, _, rfl, ha, S, hc, by omega, ?_, fun r H' r0 r1 mv => ?_⟩
    · show (xs.length : Int).natAbs < 2 ^ 200
      exact Nat.lt_of_le_of_lt (show (xs.length : Int).natAbs ≤ 1000 by omega) (by decide)
    · have hi : r.toNat < xs.length := by omega
      have e : xs[r.toNat]? = some (xs[r.toNat]) := List.getElem?_eq_getElem hi
      exact ⟨b, xs, r, _, rfl, rfl, sq_mv hb ne mv, at_of (by omega) e, k r.toNat _ H' e mv⟩
/-! _law_bag(script, at) -/
def spBag (K : PySem.W.Frag) : Sp := fun vs H Q _ => ∃ (a : Addr) (ns : List Int) (at_ : Int), vs = [.ref a, .int at_] ∧ SqL K H a (ns.map V.int) ∧ 0 ≤ at_ ∧ at_ ≤ 63 ∧
  ∀ (p : Addr) (g s : Int), H p = none → Bag g 0 s → Q (.ref p) (upd H p (.lst (bagL g 0 s)))
theorem scBag : FnScope ["script", "at", "cell", "digits"] ["script", "at"] (defScope sBag) := ⟨rfl, rfl, rfl, by decide +kernel, rfl, by decide +kernel, by decide +kernel⟩
theorem ok_bag {f : Addr} {fd : FuncData} (F : Fun K "_law_bag" "_law_bag" sBag f fd) (hint : mg "int" = none) (hlen : mg "len" = none) (habs : mg "abs" = none) : FnOk P w K mg base CX0 1 f fd ["script", "at"] (spBag K) := by
  refine F.ok scBag (fun vs H Q E h => ?_) (fun cdv A outer s H vs Q E hr h => ?_)
  · obtain ⟨a, ns, at_, rfl, _⟩ := h
    rfl
  · obtain ⟨a, ns, at_, rfl, ha, h0, h1, k⟩ := h
    refine ⟨_, C8.pss_cut (ps_set (i := 2) scBag.nd rfl (Or.inl rfl) (pe_ifExp (pt_cmpR op_lt (pv 1) (pe_callB call_len_seq (by rfl) hlen PySem.boot_len (pa_cons (pv 0) pa_nil)) (nomark _)) (pe_ix ix_list (pv 0) (pv 1) (fun _ _ => rfl)) pe_int))
      (C8.pss_cut (ps_set (i := 3) scBag.nd rfl (Or.inl rfl) (pe_ifExp (pt_cmpR op_ge (pe_callB call_abs (by rfl) habs PyProof.Rows.boot_abs (pa_cons (pv 2) pa_nil)) (pe_op op_pow pe_int pe_int) (nomark _)) (pe_callB call_abs (by rfl) habs PyProof.Rows.boot_abs (pa_cons (pv 2) pa_nil)) pe_int))
      (pss_one (ps_ret (pe_lst (pa_cons (pv 3) (pa_cons pe_int (pa_cons (pe_op op_add (pe_op op_add (pe_op op_mod (pe_callTy call_int1 (by rfl) hint PyProof.Rows.boot_int (pa_cons (pv 2) pa_nil)) pe_int) (pe_op op_mul pe_int (pv 1))) pe_int) pa_nil))))))), ?_⟩
    refine ⟨fun σ' H' => ∃ c : Int, σ' = [some (.ref a), some (.int at_), some (.int c), none] ∧ H' = H, ?_, ?_⟩
    · refine ⟨_, rfl, _, rfl, a, _, rfl, .inl ha, _, _, rfl, rfl, _, rfl, ?_⟩
      refine ite2 (fun hc => ?_) (fun _ => ⟨0, rfl, rfl⟩)
      have hc' : at_ < ((ns.map V.int).length : Int) := of_decide_eq_true hc
      rw [List.length_map] at hc'
      have hi : at_.toNat < ns.length := by omega
      have e : (ns.map V.int)[at_.toNat]? = some (V.int ns[at_.toNat]) := by rw [List.getElem?_map, List.getElem?_eq_getElem hi] <;> rfl
      exact ⟨_, rfl, _, rfl, a, _, _, _, rfl, rfl, ha, at_of (by omega) e, _, rfl, rfl⟩
    rintro σ' H' ⟨c, rfl, rfl⟩
    refine ⟨fun σ' H2 => ∃ d : Int, 0 ≤ d ∧ σ' = [some (.ref a), some (.int at_), some (.int c), some (.int d)] ∧ H2 = H', ?_, ?_⟩
    · have ab : (0 : Int) ≤ if c < 0 then -c else c := by split <;> omega
      refine ⟨_, rfl, _, rfl, _, _, rfl, rfl, ⟨by decide, by decide, by decide⟩, _, _, rfl, rfl, _, rfl, ?_⟩
      exact ite2 (fun _ => ⟨_, rfl, _, rfl, _, ab, rfl, rfl⟩) (fun _ => ⟨0, by decide, rfl, rfl⟩)
    rintro σ' H2 ⟨d, d0, rfl, rfl⟩
    refine ⟨_, rfl, _, rfl, .inl ⟨_, rfl, _, _, rfl, rfl, (by show (0 : Int) < 2305843009213693951; decide), _, rfl, _, _, rfl, rfl, .inl ⟨by decide, by decide⟩, _, _, rfl, rfl, _, _, rfl, rfl, (by show 3 ≤ sizeLine; decide), fun p np => ?_⟩⟩
    have q0 : 0 ≤ c % 2305843009213693951 := Int.emod_nonneg _ (by decide)
    have q1 : c % 2305843009213693951 < 2305843009213693951 := Int.emod_lt_of_pos _ (by decide)
    exact k p d _ np ⟨d0, by decide, by decide, by omega, by omega⟩
end
end Lq


set_option Elab.async false
set_option linter.all false
set_option maxRecDepth 100000
set_option maxHeartbeats 4000000
namespace L2.LqX
open PySem PySem.Spec PyProof.Rows L2
theorem key_isStr {k : Key} {v : Value} {n : Str} (h : keyIs k v = true) : v.isStr n = decide (k = Sum.inr n) := by
  rcases keyIs_shape h with ⟨i, t, rfl, rfl⟩ | ⟨x, t, rfl, rfl⟩
  · rw [key_lr]; rfl
  · rw [key_rr]
    by_cases e : x = n
    · subst e; simp [Value.isStr]
    · rw [decide_eq_false e]
      simp [Value.isStr, e]
theorem nsSet_new {P : Program} {w : World} {A : Around} {E : Value → Shared → Prop} {s : Shared} {d : Addr} {kvs : List (Key × Value)} {n : Str} {v : Value} {Q : Unit → Shared → Prop} (hd : s.heap.DictOf (mixKind P w) d kvs) (hn : (Sum.inr n : Key) ∉ kvs.map (·.1))
    (hQ : ∀ h' t', h'.DictOf (mixKind P w) d (kvs ++ [(Sum.inr n, v)]) → Heap.SameBut d s.heap h' → Q () { s with heap := h', toks := t' }) : wpAny (model P w) A (nsSet d n v) Q E s := by
  obtain ⟨o, es, ep, ho, hc, hdat, hk, hp, hnd⟩ := hd
  have none_is : es.findIdx? (·.key.isStr n) = none := by
    have e : (es.findIdx? fun e => keyIs (Sum.inr n) e.key) = kvs.findIdx? fun kv => decide (kv.1 = Sum.inr n) := by
      have e1 := hp.findIdx (Sum.inr n)
      obtain ⟨l⟩ := es
      rw [List.findIdx?_toArray]
      exact e1
    have e2 : (kvs.findIdx? fun kv => decide (kv.1 = Sum.inr n)) = none := by
      rw [List.findIdx?_eq_none_iff]
      intro kv hkv
      exact decide_eq_false fun z => hn (List.mem_map.mpr ⟨kv, hkv, z⟩)
    rw [e2] at e
    rw [Array.findIdx?_eq_none_iff] at e ⊢
    intro x hx
    obtain ⟨k, k1, _⟩ := hk x hx
    have z := e x hx
    rcases keyIs_shape k1 with ⟨i, t, rfl, ek⟩ | ⟨y, t, rfl, ek⟩
    · rw [ek]; rfl
    · rw [ek] at z ⊢
      simpa [keyIs, Value.isStrOf, Value.isStr] using z
  have no_ref : es.any (·.refKey) = false := by
    rw [Array.any_eq_false']
    intro x hx
    obtain ⟨k, k1, _⟩ := hk x hx
    rcases keyIs_shape k1 with ⟨i, t, rfl, ek⟩ | ⟨y, t, rfl, ek⟩ <;> simp [DictEntry.refKey, ek]
  intro Γ p _
  simp only [nsSet, strHash, Sem.wp_bind', Sem.wp_cmd_ask, Sem.wp_pure', Sem.wp_cmd_mkText]
  rw [Sem.wp_loadPart_of (model P w) Γ _ p { s with toks := s.toks + 1 } (o := o) _ ho]
  simp only [hdat, aRefKeyMayBeTheName_eq, aRefKeyMayBeTheNameByArray, no_ref, Bool.and_false, Bool.false_eq_true, if_false, Sem.wp_cmd_updatePart]
  refine ⟨by rw [ho]; rfl, hQ _ _ ?_ (Heap.SameBut.update ..)⟩
  obtain ⟨c, dd, dt, sl⟩ := o
  obtain ⟨rfl, rfl, rfl⟩ := hc
  subst hdat
  refine ⟨_, es.push ⟨_, .str n s.toks, v⟩, ep + 1, Heap.get?_update_self _ ho (by simp only [Obj.putName_eq, Obj.putNameByArray, none_is]; rfl), by simp only [Obj.putName_eq, Obj.putNameByArray, none_is]; exact ⟨rfl, rfl, rfl⟩, by simp only [Obj.putName_eq, Obj.putNameByArray, none_is]; rfl, ?_, ?_, ?_⟩
  · intro x hx
    rcases Array.mem_push.mp hx with z | z
    · exact hk x z
    · subst z
      exact ⟨Sum.inr n, keyIs_str n s.toks, rfl⟩
  · rw [Array.toList_push]
    exact Pairs.append (knd := mixKind P w) hp (k := Sum.inr n) (key := .str n s.toks) (keyIs_str n s.toks) _ _
  · rw [List.map_append, List.nodup_append]
    refine ⟨hnd, List.nodup_cons.mpr ⟨List.not_mem_nil, List.nodup_nil⟩, fun a ha b hb z => ?_⟩
    rw [List.map_cons, List.map_nil, List.mem_singleton] at hb
    subst z
    rw [hb] at ha
    exact hn ha
section
variable {P : Program} {w : World} {A : Around} {E : Value → Shared → Prop} {s : Shared}
theorem dictPut_new {d : Addr} {kvs : List (Key × Value)} {k : Key} {key v : Value} {Q : Unit → Shared → Prop} (hkey : keyIs k key = true) (hd : s.heap.DictOf (mixKind P w) d kvs) (hn : k ∉ kvs.map (·.1)) (hz : kvs.length ≤ sizeLine)
    (hQ : ∀ h', h'.DictOf (mixKind P w) d (kvs ++ [(k, v)]) → Heap.SameBut d s.heap h' → Q () { s with heap := h' }) : wpAny (model P w) A (dictPut d (keyH w k) key v) Q E s := by
  obtain ⟨o, es, ep, ho, hc, hdat, hk, hp, hnd⟩ := hd
  have hes : es.size ≤ sizeLine := by
    have e1 := hp.length
    have e2 : es.toList.length = es.size := by simp
    omega
  have none_is : (es.findIdx? fun e => (mixKind P w).is k e.key) = none := by
    have e1 := hp.findIdx k
    have e2 : (kvs.findIdx? fun kv => decide (kv.1 = k)) = none := by
      rw [List.findIdx?_eq_none_iff]
      intro kv hkv
      exact decide_eq_false fun z => hn (List.mem_map.mpr ⟨kv, hkv, z⟩)
    rw [e2] at e1
    obtain ⟨l⟩ := es
    rw [List.findIdx?_toArray]
    exact e1
  unfold dictPut
  refine wpAny_bind (wpAny_dictFind_of (knd := mixKind P w) (k := k) hkey ho hdat hk ?_)
  rw [none_is]
  refine wpAny_updateDictKeys (hz := hes) ho hdat (hQ _ ⟨_, _, ep + 1, Heap.get?_update_self _ ho (Obj.isFreed_of_dict (Obj.data_mapDictKeys hdat _)), hc.mapDictKeys _, Obj.data_mapDictKeys hdat _, hk.push hkey _, ?_, ?_⟩ (Heap.SameBut.update ..))
  · rw [Array.toList_push]
    exact Pairs.append (knd := mixKind P w) hp hkey _ _
  · rw [List.map_append, List.nodup_append]
    refine ⟨hnd, List.nodup_cons.mpr ⟨List.not_mem_nil, List.nodup_nil⟩, fun a ha b hb z => ?_⟩
    rw [List.map_cons, List.map_nil, List.mem_singleton] at hb
    subst z
    rw [hb] at ha
    exact hn ha
theorem pairs_at {P : Program} {w : World} {l : List DictEntry} {kvs : List (Key × Value)} (h : Pairs (mixKind P w) l kvs) : ∀ {i : Nat} {e : DictEntry}, l[i]? = some e → ∃ k v, kvs[i]? = some (k, v) ∧ keyIs k e.key = true ∧ e.val = v := by
  induction h with
  | nil => intro i e z; cases z
  | @cons e0 kv es kvs h1 h2 _ ih =>
    intro i e z
    cases i with
    | zero => cases z; exact ⟨kv.1, kv.2, rfl, h1, h2⟩
    | succ j => exact ih z
theorem merge_run {d a : Addr} {kvs : List (Key × Value)} {un : Bool} {Q : Unit → Shared → Prop} (ha : s.heap.DictOf (mixKind P w) a kvs) (hd : s.heap.DictOf (mixKind P w) d []) (hne : a ≠ d) (hsm : (a == sysModules) = false) (hz : kvs.length ≤ sizeLine)
    (hQ : ∀ h', h'.DictOf (mixKind P w) d kvs → Heap.SameBut d s.heap h' → Q () { s with heap := h' }) : wpAny (model P w) A (mergeMapping d (.ref a) un) Q E s := by
  have hT := ha.typeIs
  obtain ⟨o, es, ep, ho, hc, hdat, hk, hp, hnd⟩ := ha
  have hlen : es.size = kvs.length := by
    have := hp.length
    simpa using this
  unfold mergeMapping
  refine wpAny_bind (wpAny_isInstance hT (b := true) (by first | rfl | kernel_rfl) ?_)
  dsimp only
  rw [if_pos rfl]
  refine wpAny_bind (wpAny_specialOf hT F.slot_dict_iter.lookup ?_)
  rw [show ((some (Value.builtin "dict.__iter__") == some (Value.builtin "dict.__iter__")) = true) from by decide +kernel]
  refine wpAny_bind (wpAny_pure ?_)
  dsimp only
  rw [if_neg (by rw [hsm]; exact Bool.false_ne_true)]
  obtain ⟨od, esd, epd, hod, hcd, hdatd, hkd, hpd, hndd⟩ := hd
  have ed : esd = #[] := by
    have := hpd.length
    exact Array.eq_empty_of_size_eq_zero (by simpa using this)
  subst ed
  refine wpAny_bind (wpAny_dictEntries hod hdatd ?_)
  rw [if_pos (show (#[] : Array DictEntry).isEmpty = true from rfl)]
  refine wpAny_bind (wpAny_dictEntries ho hdat (wpAny_bind ?_))
  refine MeetsSeq2.wpAny_forIn_array _ (fun rest _ s' => s = s' ∧ ∀ e ∈ rest, ∃ k, keyIs k e.key = true) _ ?_ ?_ _ _ ⟨rfl, fun e he => ?_⟩
  · rintro e rest _ _ ⟨rfl, hr⟩
    obtain ⟨k, k1⟩ := hr e List.mem_cons_self
    have hr' : ∀ e ∈ rest, ∃ k, keyIs k e.key = true := fun e' he' => hr e' (List.mem_cons_of_mem _ he')
    rcases keyIs_shape k1 with ⟨i, t, rfl, ek⟩ | ⟨y, t, rfl, ek⟩
    · rw [ek]
      exact wpAny_pure ⟨rfl, hr'⟩
    · rw [ek]
      exact wpAny_pure ⟨rfl, hr'⟩
  · rintro _ _ ⟨rfl, _⟩
    refine wpAny_bind (wpAny_dictEntries ho hdat (wpAny_bind (wpAny_dictEpoch ho hdat (wpAny_bind ?_))))
    refine wpAny_forIn_list _ (fun rest _ s' => ∃ i h', i ≤ kvs.length ∧ rest = (List.range kvs.length).drop i ∧ s' = { s with heap := h' } ∧ h'.DictOf (mixKind P w) d (kvs.take i) ∧ Heap.SameBut d s.heap h') _ ?_ ?_ _ _ ⟨0, s.heap, Nat.zero_le _, by rw [hlen]; rfl, rfl, ⟨od, #[], epd, hod, hcd, hdatd, hkd, hpd, hndd⟩, Heap.SameBut.refl _ _⟩
    · rintro x rest _ s' ⟨i, h', hi, er, rfl, hd', sb⟩
      have hlt : i < kvs.length := by
        apply Classical.byContradiction
        intro hge
        rw [List.drop_eq_nil_of_le (by rw [List.length_range]; omega)] at er
        cases er
      rw [List.drop_eq_getElem_cons (by rw [List.length_range]; exact hlt)] at er
      injection er with er1 er2
      rw [List.getElem_range] at er1
      subst er1
      have hoa : h'.get? a = some o := (sb.2 a hne).trans ho
      refine wpAny_bind (wpAny_dictEntries hoa hdat ?_)
      obtain ⟨e, he⟩ : ∃ e, es[x]? = some e := ⟨es[x]'(by omega), Array.getElem?_eq_getElem (by omega)⟩
      have heL : es.toList[x]? = some e := by rw [Array.getElem?_toList]; exact he
      obtain ⟨k, v, kv, k1, ev⟩ := pairs_at hp heL
      obtain ⟨k', k1', kh⟩ := hk e (Array.mem_of_getElem? he)
      have ek : k' = k := (mixKind P w).inj e.key k' k k1' k1
      subst ek
      have hnk : k' ∉ (kvs.take x).map (·.1) := by
        intro hm
        have e3 : kvs.map (·.1) = (kvs.take x).map (·.1) ++ (kvs.drop x).map (·.1) := by rw [← List.map_append, List.take_append_drop]
        rw [e3, List.nodup_append] at hnd
        refine hnd.2.2 k' hm k' ?_ rfl
        obtain ⟨hx1, hx2⟩ := List.getElem?_eq_some_iff.mp kv
        rw [List.drop_eq_getElem_cons hx1, hx2]
        exact List.mem_cons_self
      rw [he]
      dsimp only
      rw [kh, ev]
      have put : ∀ s0 : Shared, s0 = { s with heap := h' } → wpAny (model P w) A (dictPut d (keyH w k') e.key v) (fun _ s'' => ∃ h'', s'' = { s with heap := h'' } ∧ h''.DictOf (mixKind P w) d (kvs.take (x + 1)) ∧ Heap.SameBut d s.heap h'') E s0 := by
        rintro _ rfl
        refine dictPut_new k1 hd' hnk (by rw [List.length_take]; omega) fun h'' hd'' sb' => ⟨h'', rfl, ?_, sb.trans sb'⟩
        rw [List.take_succ, kv]
        exact hd''
      refine wpAny_bind (wpAny_holding (wpAny_mono (Q := fun _ s'' => ∃ h'', s'' = { s with heap := h'' } ∧ h''.DictOf (mixKind P w) d (kvs.take (x + 1)) ∧ Heap.SameBut d s.heap h'') ?_ ?_ fun _ _ z => z))
      rotate_left
      · rintro _ _ ⟨h'', rfl, hd'', sb''⟩
        refine wpAny_bind (wpAny_dictEpoch (s := { s with heap := h'' }) ((sb''.2 a hne).trans ho) hdat ?_)
        rw [if_neg (by simp)]
        exact wpAny_pure ⟨x + 1, h'', hlt, er2, rfl, hd'', sb''⟩
      by_cases hu : un = true
      · rw [if_pos hu]
        obtain ⟨od', esd', epd', hod', hcd', hdatd', hkd', hpd', hndd'⟩ := hd'
        refine wpAny_bind (wpAny_dictFind_of (knd := mixKind P w) (k := k') (s := { s with heap := h' }) k1 hod' hdatd' hkd' ?_)
        have none_is : (esd'.findIdx? fun e => (mixKind P w).is k' e.key) = none := by
          have e1 := hpd'.findIdx k'
          have e2 : ((kvs.take x).findIdx? fun kv => decide (kv.1 = k')) = none := by
            rw [List.findIdx?_eq_none_iff]
            intro kv hkv
            exact decide_eq_false fun z => hnk (List.mem_map.mpr ⟨kv, hkv, z⟩)
          rw [e2] at e1
          obtain ⟨l⟩ := esd'
          rw [List.findIdx?_toArray]
          exact e1
        rw [none_is, if_neg (by simp)]
        exact put _ rfl
      · rw [if_neg hu]
        exact put _ rfl
    · rintro _ s' ⟨i, h', hi, er, rfl, hd', sb⟩
      have hge : kvs.length ≤ i := by
        apply Classical.byContradiction
        intro hlt
        rw [List.drop_eq_getElem_cons (by rw [List.length_range]; omega)] at er
        cases er
      refine wpAny_pure (hQ h' ?_ sb)
      rw [List.take_of_length_le hge] at hd'
      exact hd'
  · obtain ⟨k, k1, _⟩ := hk e (Array.mem_toList_iff.mp he)
    exact ⟨k, k1⟩
end
end L2.LqX


set_option Elab.async false
set_option linter.all false
set_option maxRecDepth 100000
set_option maxHeartbeats 4000000
namespace L2.LqX
open PySem PySem.Spec PyProof.Rows L2
section
variable {M : Model} {A : Around} {E : Value → Shared → Prop} {s : Shared}
theorem call_star {f : Value} {first : List Value} {pos : Pos} {Q : Value → Shared → Prop} {Pr : Heap → Prop} {args : List (Bool × Sem Value)} {kws : List (Option Str × Sem Value)} (hst : (args.any (·.1) || kws.any (·.1.isNone)) = true)
    (hk : ∀ h, Pr h → ∃ k, (k = Keeper.frame ∨ k = Keeper.machine ∨ k = Keeper.boundFrame) ∧ PySem.W.Looks M h (keeperOf f) k)
    (h : wpAny M A (evalArgs f true args kws) (fun a s₁ => Pr s₁.heap ∧ wpAny M A (call f (first ++ a.pos) a.kw) Q E s₁) E s) : wpAny M A (callWith pos f first args kws) Q E s := by
  unfold callWith
  refine wpAny_bind (wpAny_holding (wpAny_mono h (fun a s₁ h₁ => wpAny_bind (wpAny_standAt ?_)) fun _ _ x => x))
  obtain ⟨k, hk', L⟩ := hk _ h₁.1
  rw [hst]
  refine wpAny_bind (L.here ?_)
  have tail : ∀ {t : Sem Value}, wpAny M A t Q E s₁ → wpAny M A (t >>= fun r => holding [r] point >>= fun _ => pure r) Q E s₁ :=
    fun ht => wpAny_bind (wpAny_mono ht (fun r s₂ hr => wpAny_bind (wpAny_holding (wpAny_point (wpAny_pure hr)))) fun _ _ x => x)
  have marked (mk : Value) : wpAny M A (callMarked mk f (first ++ a.pos) a.kw) Q E s₁ := by unfold callMarked; exact Calls.wpAny_keep h₁.2
  rcases hk' with rfl | rfl | rfl <;> dsimp only <;> first | exact tail (marked _) | exact tail (wpAny_operating h₁.2)
theorem evalArgs_one {f : Value} {x y : Sem Value} {rest : List (Bool × Sem Value)} {Q : Args → Shared → Prop} (h : wpAny M A (spliced ((false, x) :: rest)) (fun vs s1 => wpAny M A (mergedKeywords f [(none, y)]) (fun d s2 => wpAny M A (keywordsIn f d) (fun kw s3 => Q ⟨vs, kw⟩ s3) E s2) E s1) E s) :
    wpAny M A (evalArgs f true ((false, x) :: rest) [(none, y)]) Q E s := by
  unfold evalArgs
  show wpAny M A (spliced ((false, x) :: rest) >>= _) Q E s
  refine wpAny_bind (wpAny_mono h (fun vs s' h' => ?_) fun _ _ x => x)
  refine wpAny_bind (wpAny_pure ?_)
  refine wpAny_holding ?_
  refine wpAny_bind (wpAny_mono h' (fun d s2 h2 => ?_) fun _ _ x => x)
  refine wpAny_bind (wpAny_pure (wpAny_bind (wpAny_holding (wpAny_mono h2 (fun kw s3 h3 => wpAny_pure h3) fun _ _ x => x))))
end
section
variable {P : Program} {w : World} {A : Around} {E : Value → Shared → Prop} {s : Shared}
/-- ** of one dict: a new dict is laid, what it shall hold is read, and copied into it -/
theorem merged_run {f : Value} {x : Sem Value} {Q : Addr → Shared → Prop}
    (h : wpAny (model P w) A x (fun v s1 => ∃ a kvs, v = .ref a ∧ s1.heap.DictOf (mixKind P w) a kvs ∧ s1.heap.DictOf (mixKind P w) s.heap.objs.size [] ∧ a ≠ s.heap.objs.size ∧ (a == sysModules) = false ∧ kvs.length ≤ sizeLine ∧
      ∀ h', h'.DictOf (mixKind P w) s.heap.objs.size kvs → Heap.SameBut s.heap.objs.size s1.heap h' → Q s.heap.objs.size { s1 with heap := h' }) E { s with heap := s.heap.push { cls := .type "dict", data := .dict #[] } }) :
    wpAny (model P w) A (mergedKeywords f [(none, x)]) Q E s := by
  unfold mergedKeywords
  refine wpAny_bind (wpAny_alloc ?_)
  refine wpAny_bind (wpAny_holding ?_)
  refine wpAny_bind ?_
  rw [List.forIn_cons]
  refine wpAny_bind ?_
  dsimp only
  refine wpAny_bind (wpAny_pure ?_)
  refine wpAny_bind (wpAny_mono h (fun v s1 h1 => ?_) fun _ _ z => z)
  obtain ⟨a, kvs, rfl, ha, hd, hne, hsm, hz, hq⟩ := h1
  refine wpAny_bind (wpAny_onRaise (wpAny_holding (wpAny_tryCatch (wpAny_onRaise (merge_run ha hd hne hsm hz fun h' hd' sb => ?_)))))
  refine wpAny_pure ?_
  dsimp only
  rw [List.forIn_nil]
  exact wpAny_pure (wpAny_pure (wpAny_pure (hq h' hd' sb)))
theorem keywords_run {f : Value} {d : Addr} {kvs : List (Str × Value)} {Q : List (Str × Value) → Shared → Prop} (hd : s.heap.DictOf (mixKind P w) d (kvs.map fun kv => (Sum.inr kv.1, kv.2))) (h : Q kvs s) : wpAny (model P w) A (keywordsIn f d) Q E s := by
  obtain ⟨o, es, ep, ho, hc, hdat, hk, hp, hnd⟩ := hd
  unfold keywordsIn
  refine wpAny_bind (wpAny_dictEntries ho hdat (wpAny_bind ?_))
  refine MeetsSeq2.wpAny_forIn_array _ (fun rest b s' => s = s' ∧ ∃ i, rest = es.toList.drop i ∧ b = kvs.take i) _ ?_ ?_ _ _ ⟨rfl, 0, rfl, rfl⟩
  · rintro e rest b _ ⟨rfl, i, er, rfl⟩
    have hi : es.toList[i]? = some e := by
      rw [← List.head?_drop, ← er]
      rfl
    obtain ⟨k, v, kv, k1, ev⟩ := pairs_at hp hi
    rw [List.getElem?_map] at kv
    obtain ⟨⟨n, u⟩, e1, e2⟩ := Option.map_eq_some_iff.mp kv
    cases e2
    obtain ⟨t, ek⟩ : ∃ t, e.key = .str n t := by
      rcases keyIs_shape k1 with ⟨_, _, z, _⟩ | ⟨y, t, z, ek⟩
      · cases z
      · cases z; exact ⟨t, ek⟩
    rw [ek]
    refine wpAny_pure ⟨rfl, i + 1, ?_, ?_⟩
    · rw [← List.drop_drop, ← er]
      rfl
    · rw [List.take_succ, e1, ev]
      rfl
  · rintro b _ ⟨rfl, i, er, rfl⟩
    have hl : kvs.length ≤ i := by
      have e1 := hp.length
      have e2 := congrArg List.length er
      rw [List.length_drop] at e2
      rw [List.length_map] at e1
      simp at e2 e1
      omega
    rw [List.take_of_length_le hl]
    exact wpAny_pure h
end
end L2.LqX


set_option Elab.async false
set_option linter.all false
set_option maxRecDepth 100000
set_option maxHeartbeats 4000000
namespace L2.LqX
open PySem PySem.Spec PyProof.Rows L2
section
variable {P : Program} {w : World} {A : Around} {E : Value → Shared → Prop} {s : Shared}
/-- a def (a, b=.., **c) -/
structure Kw2 (p : Arguments) (a b c : Str) : Prop where
  po : p.posonlyargs = []
  ar : p.args.map (·.arg) = [a, b]
  ko : p.kwonlyargs = []
  va : p.vararg = none
  kw : ∃ q, p.kwarg = some q ∧ q.arg = c
  ne : a ≠ b
theorem fill_run {d : Addr} : ∀ (kus dn : List (Str × Value)) {s : Shared} {Q : PUnit → Shared → Prop}, s.heap.DictOf (mixKind P w) d (dn.map fun kv => (Sum.inr kv.1, kv.2)) → ((dn ++ kus).map (·.1)).Nodup →
    (∀ h' t', h'.DictOf (mixKind P w) d ((dn ++ kus).map fun kv => (Sum.inr kv.1, kv.2)) → Heap.SameBut d s.heap h' → Q PUnit.unit { s with heap := h', toks := t' }) →
    wpAny (model P w) A (List.foldlM (fun (_ : PUnit) (a : Str × Value) => nsSet d a.1 a.2) PUnit.unit kus) Q E s
  | [], dn, s, Q, hd, _, hQ => by
    rw [List.foldlM_nil]
    refine wpAny_pure ?_
    have := hQ s.heap s.toks (by rw [List.append_nil]; exact hd) (Heap.SameBut.refl _ _)
    exact this
  | (k, v) :: rest, dn, s, Q, hd, hn, hQ => by
    rw [List.foldlM_cons]
    have e1 : dn ++ (k, v) :: rest = (dn ++ [(k, v)]) ++ rest := by rw [List.append_assoc]; rfl
    rw [e1] at hn hQ
    refine wpAny_bind (nsSet_new hd ?_ fun h2 t2 hd2 sb2 => ?_)
    · intro hm
      rw [List.map_map] at hm
      obtain ⟨kv, m1, m2⟩ := List.mem_map.mp hm
      have m3 : kv.1 = k := Sum.inr.inj m2
      rw [List.map_append, List.map_append, List.nodup_append, List.nodup_append] at hn
      exact hn.1.2.2 k (List.mem_map.mpr ⟨kv, m1, m3⟩) k List.mem_cons_self rfl
    · refine fill_run rest (dn ++ [(k, v)]) (s := { s with heap := h2, toks := t2 }) (by rw [List.map_append]; exact hd2) hn fun h3 t3 hd3 sb3 => ?_
      exact hQ h3 t3 hd3 (sb2.trans sb3)
/-- how the two are given: by place, by name, or not at all -/
inductive Two (a b : Str) (dv ua ub : Value) : List Value → List (Str × Value) → Prop
  | pos : Two a b dv ua ub [ua, ub] []
  | key : Two a b dv ua ub [ua] [(b, ub)]
  | dft : ub = dv → Two a b dv ua ub [ua] []
theorem bind_two {p : Arguments} {a b c x qual : Str} {body : List Stmt} {scope : Scope} {T : Addr} {kV doc pm cdv ct : Value} {an : Option Addr} {us : List Value} {pre kus : List (Str × Value)} {Q : List (Str × Value) → Shared → Prop} {dv ua ub : Value} (K2 : Kw2 p a b c)
    (hT : ∀ (Q' : Option (Array Value) → Shared → Prop), Q' (some #[dv]) s → wpAny (model P w) A (seqItems? (.ref T)) Q' E s)
    (hkn : ∀ kv ∈ kus, kv.1 ≠ a ∧ kv.1 ≠ b) (hnd : (kus.map (·.1)).Nodup) (hz : kus.length ≤ sizeLine)
    (hu : Two a b dv ua ub us pre)
    (hQ : ∀ h' t', h'.DictOf (mixKind P w) s.heap.objs.size (kus.map fun kv => (Sum.inr kv.1, kv.2)) → Heap.SameBut s.heap.objs.size (s.heap.push { cls := .type "dict", data := .dict #[] }) h' → Q [(a, ua), (b, ub), (c, .ref s.heap.objs.size)] { s with heap := h', toks := t' }) :
    wpAny (model P w) A (bindArgs (PySem.W.fnOf x qual p body scope (.ref T) kV doc pm an cdv ct) ⟨us, pre ++ kus⟩) Q E s := by
  obtain ⟨q, hq, rfl⟩ := K2.kw
  have hne := K2.ne
  have hne' : ¬ b = a := fun z => hne z.symm
  have run : ∀ (sl : List (Str × Value)) (Qf : List (Str × Value) × List (Str × Value) → Shared → Prop) (body : Str × Value → List (Str × Value) × List (Str × Value) → Sem (ForInStep (List (Str × Value) × List (Str × Value)))),
      (∀ k v ex, k ≠ a → k ≠ b → body (k, v) (sl, ex) = pure (ForInStep.yield (sl, ex ++ [(k, v)]))) → Qf (sl, kus) s → wpAny (model P w) A (forIn kus (sl, ([] : List (Str × Value))) body) Qf E s := by
    intro sl Qf body hb hf
    refine wpAny_forIn_list _ (fun rest st s' => s = s' ∧ ∃ i, rest = kus.drop i ∧ st = (sl, kus.take i)) _ ?_ ?_ _ _ ⟨rfl, 0, rfl, rfl⟩
    · rintro ⟨k, v⟩ rest _ _ ⟨rfl, i, er, rfl⟩
      have hi : kus[i]? = some (k, v) := by
        rw [← List.head?_drop, ← er]
        rfl
      obtain ⟨k1, k2⟩ := hkn _ (List.mem_of_getElem? hi)
      rw [hb k v _ k1 k2]
      refine wpAny_pure ⟨rfl, i + 1, ?_, ?_⟩
      · rw [← List.drop_drop, ← er]
        rfl
      · rw [List.take_succ, hi]
        rfl
    · rintro _ _ ⟨rfl, i, er, rfl⟩
      have hl : kus.length ≤ i := by
        have e2 := congrArg List.length er
        rw [List.length_drop] at e2
        simp at e2
        omega
      rw [List.take_of_length_le hl]
      exact hf
  unfold bindArgs
  simp only [PySem.W.fnOf, K2.po, K2.ar, K2.ko, K2.va, hq, List.map_nil, List.nil_append, List.append_nil]
  have fin : ∀ {Q' : PUnit → Shared → Prop}, (∀ h' t', h'.DictOf (mixKind P w) s.heap.objs.size (kus.map fun kv => (Sum.inr kv.1, kv.2)) → Heap.SameBut s.heap.objs.size (s.heap.push { cls := .type "dict", data := .dict #[] }) h' → Q' PUnit.unit { s with heap := h', toks := t' }) →
      wpAny (model P w) A (List.foldlM (fun (_ : PUnit) (a : Str × Value) => nsSet s.heap.objs.size a.1 a.2) PUnit.unit kus) Q' E { s with heap := s.heap.push { cls := .type "dict", data := .dict #[] } } :=
    fun h => fill_run kus [] (s := { s with heap := s.heap.push { cls := .type "dict", data := .dict #[] } }) (Heap.DictOf.new _) hnd h
  have hz' : ¬ sizeLine + 1 < kus.length := by omega
  cases hu with
  | pos =>
    refine wpAny_bind ?_
    refine run _ _ _ (fun k v ex k1 k2 => ?_) ?_
    · simp [k1, k2]
    · refine wpAny_bind (hT _ ?_)
      simp [hz', List.lookup, hne, hne', beq_eq_false_iff_ne.mpr hne']
      refine wpAny_bind (wpAny_alloc (wpAny_map (fin hQ)))
  | key =>
    rw [List.cons_append, List.nil_append, List.forIn_cons]
    refine wpAny_bind (wpAny_bind ?_)
    simp [List.lookup, hne, hne', beq_eq_false_iff_ne.mpr hne']
    refine wpAny_pure ?_
    dsimp only
    refine run _ _ _ (fun k v ex k1 k2 => ?_) ?_
    · simp [k1, k2]
    · refine wpAny_bind (hT _ ?_)
      simp [hz', List.lookup, hne, hne', beq_eq_false_iff_ne.mpr hne']
      refine wpAny_bind (wpAny_alloc (wpAny_map (fin hQ)))
  | dft e =>
    subst e
    refine wpAny_bind ?_
    refine run _ _ _ (fun k v ex k1 k2 => ?_) ?_
    · simp [k1, k2]
    · refine wpAny_bind (hT _ ?_)
      simp [hz', List.lookup, hne, hne', beq_eq_false_iff_ne.mpr hne']
      refine wpAny_bind (wpAny_alloc (wpAny_map (fin hQ)))
end
end L2.LqX


set_option Elab.async false
set_option linter.all false
set_option maxRecDepth 100000
set_option maxHeartbeats 4000000
namespace L2.LqX
open PySem PySem.Spec PyProof.Rows L2
theorem cxUpN {P : Program} {w : World} : StX.CXUp (L2N.CX P w) := by
  rintro outer s H s2 H2 E e s' un kp ho ⟨a, B, H', cls, d, ea, fl, hok, ub, na, os, ag, he⟩
  refine ⟨a, B, H', cls, d, ea, fl, hok, ⟨fun b o q n hb => ub.keep b o (kp b o q) (un.free b o q n (by simp)) hb, fun b o q hb => ub.slot b o (kp b o q) hb, fun b o q n => ub.free b o (kp b o q) (un.free b o q n (by simp)),
    fun b o q hb => ub.there b o (kp b o q) hb, fun b xs q => ub.tups b xs (un.tups b xs q), fun b o xs q => ub.frzs b o xs (un.frzs b o xs q), fun b ps q => ?_⟩, na, os.trans ho, ag, he⟩
  obtain ⟨m1, e1⟩ := un.tbls b ps q
  obtain ⟨m2, e2⟩ := ub.tbls b _ e1
  exact ⟨m1 ++ m2, by rw [e2, Array.append_assoc]⟩
/-- keywords' names and values -/
abbrev KwV : List (Str × V) → List (Str × Value) → Prop := KV
def kKey (kvs : List (Str × V)) : List (Key × V) := kvs.map fun kv => (Sum.inr kv.1, kv.2)
theorem kv_key : ∀ {kvs : List (Str × V)} {kus : List (Str × Value)}, KwV kvs kus → KV (kKey kvs) (kus.map fun kv => ((Sum.inr kv.1 : Key), kv.2))
  | _, _, .nil => .nil
  | _, _, .cons ⟨e, r⟩ t => .cons ⟨congrArg Sum.inr e, r⟩ (kv_key t)
theorem kv_len : ∀ {kvs : List (Str × V)} {kus : List (Str × Value)}, KwV kvs kus → kvs.length = kus.length
  | _, _, .nil => rfl
  | _, _, .cons _ t => congrArg Nat.succ (kv_len t)
theorem kv_names : ∀ {kvs : List (Str × V)} {kus : List (Str × Value)}, KwV kvs kus → kvs.map (·.1) = kus.map (·.1)
  | _, _, .nil => rfl
  | _, _, .cons ⟨e, _⟩ t => by rw [List.map_cons, List.map_cons, e, kv_names t]
section
variable {P : Program} {w : World} {K : PySem.W.Frag} {mg : Str → Option Value} {base : Heap}
/-- a promise by values and keywords -/
def FnA (P : Program) (w : World) (K : PySem.W.Frag) (mg : Str → Option Value) (base : Heap) (CX : CXT) (k : Nat) (f : Addr) (sp : List V → List (Str × V) → Hp → VK → XK → Prop) : Prop :=
  ∀ (A : Around) (outer : List Env) (s : Shared) (H : Hp) (us : List Value) (vs : List V) (kus : List (Str × Value)) (kvs : List (Str × V)) (Q : VK) (E : XK), Room k A → Env0 P w K mg base A outer s H → Vals vs us → KwV kvs kus → sp vs kvs H Q E →
    codeAny (model P w) A (.call (.ref f) ⟨us, kus⟩) (CR CX outer P w H s Q E) s
theorem env0_new {A : Around} {outer : List Env} {s : Shared} {H : Hp} {o : Obj} {u : HO} {h' : Heap} {t' : Nat} (e0 : Env0 P w K mg base A outer s H) (sb : Heap.SameBut s.heap.objs.size (s.heap.push o) h') (new : ObjOk P w (upd H s.heap.objs.size u) h' s.heap.objs.size u) :
    Env0 P w K mg base A outer { s with heap := h', toks := t' } (upd H s.heap.objs.size u) := by
  have kp : ∀ b x, s.heap.get? b = some x → h'.get? b = some x := fun b x e => (sb.2 b (Nat.ne_of_lt (Heap.lt_size e))).trans (Heap.get?_push_of_some _ e)
  have sz : h'.objs.size = s.heap.objs.size + 1 := by rw [sb.1, Heap.size_push]
  refine ⟨e0.frames, e0.mod, fun b x e => ⟨kp b x (e0.bs b x e).1, ?_⟩, ?_, Heap.FunFrames.of_keeps (fun b x e _ => ⟨x, kp b x e, rfl⟩) e0.funs, fun b hb => ?_, e0.hok.laid kp (Nat.le_refl _) new, e0.bare⟩
  · rw [upd_ne (Nat.ne_of_lt (Heap.lt_size (e0.bs b x e).1))]
    exact (e0.bs b x e).2
  · show base.objs.size ≤ h'.objs.size
    rw [sz]
    exact Nat.le_succ_of_le e0.bsz
  · obtain ⟨_, x, hx, _⟩ := e0.funs.mem hb
    rw [upd_ne (Nat.ne_of_lt (Heap.lt_size hx))]
    exact e0.frf b hb
/-- the two, as values of the layer -/
inductive TwoV (a b : Str) (dv ua ub : V) : List V → List (Str × V) → Prop
  | pos : TwoV a b dv ua ub [ua, ub] []
  | key : TwoV a b dv ua ub [ua] [(b, ub)]
  | dft : ub = dv → TwoV a b dv ua ub [ua] []
def spKw (a b : Str) (dv : V) (sp : Sp) : List V → List (Str × V) → Hp → VK → XK → Prop := fun vs kvs H Q E => ∃ (ua ub : V) (pre rest : List (Str × V)), kvs = pre ++ rest ∧ TwoV a b dv ua ub vs pre ∧ (∀ kv ∈ rest, kv.1 ≠ a ∧ kv.1 ≠ b) ∧ (rest.map (·.1)).Nodup ∧ rest.length ≤ sizeLine ∧
  ∀ d, H d = none → sp [ua, ub, .ref d] (upd H d (.dK (kKey rest))) Q E
theorem kv_split : ∀ {pre rest : List (Str × V)} {kus : List (Str × Value)}, KwV (pre ++ rest) kus → ∃ k1 k2, kus = k1 ++ k2 ∧ KwV pre k1 ∧ KwV rest k2
  | [], _, kus, r => ⟨[], kus, rfl, .nil, r⟩
  | _ :: pre, rest, _, .cons a r => by
    obtain ⟨k1, k2, e, r1, r2⟩ := kv_split (pre := pre) (rest := rest) r
    exact ⟨_ :: k1, k2, by rw [e]; rfl, .cons a r1, r2⟩
theorem fn_two {CX : CXT} {k : Nat} {f : Addr} {fd : FuncData} {x qual a b c : Str} {p : Arguments} {body : List Stmt} {scope : Scope} {N : List Str} {dv : V} {sp : Sp} (F : FunD K x qual p body scope [dv] [] f fd) (K2 : Kw2 p a b c) (S : FnScope N [a, b, c] scope) (hCX : StX.CXUp CX)
    (hbody : ∀ (cdv : Value) (A : Around) (outer : List Env) (s : Shared) (H : Hp) (vs : List V) (Q : VK) (E : XK), Room k (A.deeper (envOfC qual scope s.heap.objs.size f cdv)) → sp vs H Q E →
      ∃ t, PSs (cxOf CX P w K mg base N qual scope f cdv A outer s H E) body t ∧ t { nx := fun _ H' => Q .non H', rt := Q } (start N vs) H) :
    FnA P w K mg base CX (k + 1) f (spKw a b dv sp) := by
  obtain ⟨oc, od, dV, kV, doc, pm, an, cdv, ct, osl, rfl, lk, hcd, hD, hK⟩ := F.ex
  rcases hD with ⟨z, _⟩ | ⟨_, T, o, its, m, rfl, lT, oT, rT⟩
  · cases z
  cases rT with
  | cons rT1 rT2 =>
    cases rT2
    rename_i du
    intro A outer s H us vs kus kvs Q E hr e0 r rk ⟨ua, ub, pre, rest, ek, tw, hkn, hnd, hz, hq⟩
    subst ek
    obtain ⟨k1, k2, rfl, rp, rr⟩ := kv_split rk
    have KX : K.In s.heap := e0.mod.kin.keeps fun b o e => (e0.bs b o e).1
    have hn : H s.heap.objs.size = none := e0.hok.fresh (Nat.le_refl _)
    refine StX.run_bnd lk hcd S hr e0 (G := fun xs H2 => xs = [ua, ub, V.ref s.heap.objs.size] ∧ H2 = upd H s.heap.objs.size (.dK (kKey rest))) (fun A' Ex Q' h => ?_) fun s2 H2 xs ⟨ex, eH⟩ hr' => ?_
    · obtain ⟨wa, wb, tw', ra, rb⟩ : ∃ wa wb, Two a b du wa wb us k1 ∧ RelV ua wa ∧ RelV ub wb := by
        cases tw with
        | pos =>
          cases rp
          cases r with
          | cons r1 r2 => cases r2 with
            | cons r2 r3 => cases r3; exact ⟨_, _, .pos, r1, r2⟩
        | key =>
          cases r with
          | cons r1 r2 =>
            cases r2
            cases rp with
            | cons p1 p2 =>
              cases p2
              rename_i kw
              obtain ⟨nm, wv⟩ := kw
              obtain ⟨e1, e2⟩ := p1
              cases e1
              exact ⟨_, _, .key, r1, e2⟩
        | dft e =>
          subst e
          cases rp
          cases r with
          | cons r1 r2 => cases r2; exact ⟨_, _, .dft rfl, r1, rT1⟩
      have nm := kv_names rr
      have mem : ∀ kv ∈ k2, kv.1 ∈ rest.map (·.1) := fun kv hkv => by rw [nm]; exact List.mem_map.mpr ⟨kv, hkv, rfl⟩
      refine bind_two K2 (fun Q2 hq2 => wpAny_seqItems (KX _ _ lT) oT hq2) (fun kv hkv => ?_) (by rw [← nm]; exact hnd) (by rw [← kv_len rr]; exact hz) tw' fun h' t' hd sb => ?_
      · obtain ⟨kv', m1, m2⟩ := List.mem_map.mp (mem kv hkv)
        rw [← m2]
        exact hkn kv' m1
      · have kp : ∀ b x, s.heap.get? b = some x → h'.get? b = some x := fun b x e => (sb.2 b (Nat.ne_of_lt (Heap.lt_size e))).trans (Heap.get?_push_of_some _ e)
        have new : ObjOk P w (upd H s.heap.objs.size (.dK (kKey rest))) h' s.heap.objs.size (.dK (kKey rest)) := by
          refine ⟨by unfold kKey; rw [List.length_map]; exact hz, ?_, _, kv_key rr, hd⟩
          exact beq_eq_false_iff_ne.mpr (Nat.ne_of_gt (StX.env0_big e0))
        have un : Un (frs outer) [] H (upd H s.heap.objs.size (.dK (kKey rest))) s.heap h' := Un.laid kp (Nat.le_refl _) hn
        exact h { s with heap := h', toks := t' } _ [ua, ub, V.ref s.heap.objs.size] [wa, wb, .ref s.heap.objs.size] (env0_new e0 sb new) un rfl (fun e s' => hCX outer s H { s with heap := h', toks := t' } _ E e s' un kp rfl) (.cons ra (.cons rb (.cons rfl .nil))) rfl ⟨rfl, rfl⟩
    · subst ex eH
      exact hbody cdv A outer s2 _ _ Q E hr' (hq _ hn)
end
end L2.LqX


set_option Elab.async false
set_option linter.all false
set_option maxRecDepth 100000
set_option maxHeartbeats 4000000
namespace L2.LqX
open PySem PySem.Spec PyProof.Rows L2
abbrev SpA := List V → List (Str × V) → Hp → VK → XK → Prop
theorem kv_zip : ∀ {ks : List Str} {zs : List V} {ws : List Value}, Vals zs ws → KwV (ks.zip zs) (ks.zip ws)
  | [], _, _, _ => by rw [List.zip_nil_left, List.zip_nil_left]; exact .nil
  | _ :: _, _, _, .nil => .nil
  | _ :: _, _, _, .cons a r => .cons ⟨rfl, a⟩ (kv_zip r)
/-- a new instance, made by __init__'s promise -/
def tMade (C : Addr) (sp : SpA) (E : XK) (vs : List V) (kvs : List (Str × V)) (Q : VK) (H : Hp) : Prop := ∀ x dx, H x = none → H dx = none → dx ≠ x → sp (.ref x :: vs) kvs (upd (upd H dx (.own x)) x (.ins C dx [])) (fun v H3 => v = .non ∧ Q (.ref x) H3) E
section
variable {X : Cx} {CX : CXT} {k : Nat} {f C : Addr} {sp : SpA} {E : XK} {pos : Pos} {fe e : Expr} {es : List Expr} {kws : List Keyword} {tf : TE} {t tk : TA} {ks : List Str}
theorem run_makeA {pins : List (Addr × Obj)} {σ : L2.St} {H : Hp} {s : Shared} {Q : VK} {us : List Value} {vs : List V} {kus : List (Str × Value)} {kvs : List (Str × V)} (M : Mk X.K C f) (F : FnA X.prog X.w X.K X.mg X.base CX k f sp) (hr : Room (k + 1) X.A)
    (hx : Passes CX X E) (I : Inv X pins σ H s) (r : Vals vs us) (rk : KwV kvs kus) (h : tMade C sp E vs kvs Q H) : wpAny (model X.prog X.w) X.A (call (.ref C) us kus) (EP X pins σ Q) X.xe s := by
  have hq := h (s.heap.objs.size + 1) s.heap.objs.size (I.hok.fresh (Nat.le_succ _)) (I.hok.fresh (Nat.le_refl _)) (Nat.ne_of_lt (Nat.lt_succ_self _))
  have I2 := Inv.made (C := C) I
  have r1 : Vals (V.ref (s.heap.objs.size + 1) :: vs) (Value.ref (s.heap.objs.size + 1) :: us) := .cons rfl r
  refine wpAny_call (make_map (f := f) I.kIn M.makes M.init (beq_iff_eq.mp M.fn) (codeAny_mono (F _ X.stack _ _ (Value.ref (s.heap.objs.size + 1) :: us) _ kus kvs _ E (hr.make C us kus) (I2.env0.make C us kus) r1 rk hq) fun r s' hq' => ?_))
  cases r with
  | error e => exact hx pins σ _ _ e s' I2 hq'
  | ok fl =>
    cases fl with
    | ret u =>
      obtain ⟨v, H', I3, rv, ev, q3⟩ := I2.after hq'
      subst ev
      exact ⟨rv, ⟨V.ref (s.heap.objs.size + 1), H', I3, rfl, q3⟩⟩
    | next => exact False.elim hq'
    | brk => exact False.elim hq'
    | cont => exact False.elim hq'
/-- C(e, .., k = v, ..) -/
def tMkA (C : Addr) (sp : SpA) (E : XK) (ks : List Str) (tf : TE) (t tk : TA) : TE := fun σ H Q => tf σ H fun y H0 => y = .ref C ∧ t σ H0 fun vs H1 => tk σ H1 fun zs H2 => tMade C sp E vs (ks.zip zs) Q H2
theorem pe_makeA (hf : PE X fe tf) (M : Mk X.K C f) (F : FnA X.prog X.w X.K X.mg X.base CX k f sp) (hr : Room (k + 1) X.A) (hx : Passes CX X E) (ha : PA X (e :: es) t) (hkw : PK X kws tk)
    (ht : eval (.Call fe (e :: es) kws pos) X.env = (do callWith pos (← eval fe X.env) [] (backTo pos (starEach (e :: es) X.env)) (backToKw pos (keywordEach kws X.env))) := by rfl)
    (hall : (backToKw pos (keywordEach kws X.env)).all (·.1.isSome) = true := by rfl) (hks : (backToKw pos (keywordEach kws X.env)).filterMap (·.1) = ks := by rfl)
    (he : starEach (e :: es) X.env = (false, eval e X.env) :: starEach es X.env := by rfl)
    (hpl : ((backTo pos (starEach (e :: es) X.env)).any (·.1) || (backToKw pos (keywordEach kws X.env)).any (·.1.isNone)) = false := by rfl) : PE X (.Call fe (e :: es) kws pos) (tMkA C sp E ks tf t tk) := by
  refine ⟨fun pins s σ H Q I h => ?_⟩
  rw [ht]
  refine wpAny_bind (thn (hf.run pins s σ H _ I h) fun u s0 ⟨y, H0, I0, ry, ey, q⟩ => ?_)
  subst ey
  obtain rfl : u = Value.ref C := ry
  refine PySem.W.callWith_KW (h₀ := X.base) I0.ok.mod.kin M.kp hall (thn (ha.run pos pins s0 σ H0 _ I0 q) fun us s1 ⟨vs, H1, I1, r, q1⟩ => ?_) hpl he
  refine thn (hkw.run pos pins s1 σ H1 _ I1 q1) fun ws s2 ⟨zs, H2, I2, rz, q2⟩ => ⟨I2.kIn, ?_⟩
  rw [hks]
  exact run_makeA M F hr hx I2 r (kv_zip rz) q2
theorem pe_makeA0 (hf : PE X fe tf) (M : Mk X.K C f) (F : FnA X.prog X.w X.K X.mg X.base CX k f sp) (hr : Room (k + 1) X.A) (hx : Passes CX X E) (hkw : PK X kws tk)
    (ht : eval (.Call fe [] kws pos) X.env = (do callWith pos (← eval fe X.env) [] (backTo pos (starEach [] X.env)) (backToKw pos (keywordEach kws X.env))) := by rfl)
    (hall : (backToKw pos (keywordEach kws X.env)).all (·.1.isSome) = true := by rfl) (hks : (backToKw pos (keywordEach kws X.env)).filterMap (·.1) = ks := by rfl)
    (hpl : ((backTo pos (starEach [] X.env)).any (·.1) || (backToKw pos (keywordEach kws X.env)).any (·.1.isNone)) = false := by rfl) : PE X (.Call fe [] kws pos) (tMkA C sp E ks tf tNil tk) := by
  refine ⟨fun pins s σ H Q I h => ?_⟩
  rw [ht]
  refine wpAny_bind (thn (hf.run pins s σ H _ I h) fun u s0 ⟨y, H0, I0, ry, ey, q⟩ => ?_)
  subst ey
  obtain rfl : u = Value.ref C := ry
  refine PySem.W.callWith_KW0 (h₀ := X.base) I0.ok.mod.kin M.kp hall ?_ hpl
  refine thn (hkw.run pos pins s0 σ H0 _ I0 q) fun ws s2 ⟨zs, H2, I2, rz, q2⟩ => ⟨I2.kIn, ?_⟩
  rw [hks]
  exact run_makeA M F hr hx I2 .nil (kv_zip rz) q2
theorem key_back : ∀ {kvs : List (Str × V)} {vs : List (Key × Value)}, KV (kKey kvs) vs → ∃ kus : List (Str × Value), vs = kus.map (fun kv => ((Sum.inr kv.1 : Key), kv.2)) ∧ KwV kvs kus
  | [], _, .nil => ⟨[], rfl, .nil⟩
  | (n, v) :: kvs, (k, u) :: _, .cons ⟨e, r⟩ t => by
    obtain ⟨kus, e1, r1⟩ := key_back t
    have e2 : (Sum.inr n : Key) = k := e
    subst e2
    exact ⟨(n, u) :: kus, by rw [e1]; rfl, .cons ⟨rfl, r⟩ r1⟩
/-- C(e, .., **d): what d holds is copied into a new dict, then handed over -/
def tMkD (C : Addr) (sp : SpA) (E : XK) (tf : TE) (t : TA) (td : TE) : TE := fun σ H Q => tf σ H fun y H0 => y = .ref C ∧ t σ H0 fun vs H1 => ∀ d, H1 d = none → td σ (upd H1 d (.dK [])) fun y2 H2 => ∃ (b : Addr) (kvs : List (Str × V)), y2 = .ref b ∧ H2 b = some (.dK (kKey kvs)) ∧ b ≠ d ∧ H2 d = some (.dK []) ∧
  tMade C sp E vs kvs Q (upd H2 d (.dK (kKey kvs)))
theorem pe_makeD {td : TE} {ed : Expr} {kp : Pos} (hf : PE X fe tf) (M : Mk X.K C f) (F : FnA X.prog X.w X.K X.mg X.base CX k f sp) (hr : Room (k + 1) X.A) (hx : Passes CX X E) (ha : PA X (e :: es) t) (hd : PE X ed td)
    (ht : eval (.Call fe (e :: es) [⟨none, ed, kp⟩] pos) X.env = (do callWith pos (← eval fe X.env) [] (backTo pos (starEach (e :: es) X.env)) (backToKw pos (keywordEach [⟨none, ed, kp⟩] X.env))) := by rfl)
    (hks : backToKw pos (keywordEach [⟨none, ed, kp⟩] X.env) = [(none, do let v ← eval ed X.env; standAt pos; pure v)] := by rfl)
    (he : starEach (e :: es) X.env = (false, eval e X.env) :: starEach es X.env := by rfl) :
    PE X (.Call fe (e :: es) [⟨none, ed, kp⟩] pos) (tMkD C sp E tf t td) := by
  refine ⟨fun pins s σ H Q I h => ?_⟩
  rw [ht]
  refine wpAny_bind (thn (hf.run pins s σ H _ I h) fun u s0 ⟨y, H0, I0, ry, ey, q⟩ => ?_)
  subst ey
  obtain rfl : u = Value.ref C := ry
  have h1 := ha.run pos pins s0 σ H0 _ I0 q
  rw [hks]
  rw [he] at h1 ⊢
  refine call_star (Pr := X.K.In) (by simp) (PySem.W.keeps_K M.kp) (evalArgs_one (thn h1 fun us s1 ⟨vs, H1, I1, r, q1⟩ => ?_))
  refine merged_run ?_
  have hn : H1 s1.heap.objs.size = none := I1.fresh
  have hsm : (s1.heap.objs.size == sysModules) = false := beq_eq_false_iff_ne.mpr (Nat.ne_of_gt I1.big)
  have I1' : Inv X pins σ (upd H1 s1.heap.objs.size (.dK [])) { s1 with heap := s1.heap.push { cls := .type "dict", data := .dict #[] } } :=
    Inv.laid (t' := s1.toks) I1 (fun b u e => Heap.get?_push_of_some _ e) (Nat.le_refl _) ⟨Nat.zero_le _, hsm, [], .nil, Heap.DictOf.new _⟩
  refine wpAny_bind (thn (hd.run pins _ σ _ _ I1' (q1 _ hn)) fun v s2 ⟨y2, H2, I2, ry2, b, kvs, ey2, eb, hne, ed2, q2⟩ => wpAny_bind (wpAny_standAt (wpAny_pure ?_)))
  subst ey2
  obtain rfl : v = Value.ref b := ry2
  obtain ⟨z, hsb, vs2, rel, dd⟩ := dk_rd I2.hok (.inl eb)
  obtain ⟨kus, e1, rk⟩ := key_back rel
  subst e1
  obtain ⟨_, _, vs3, rel3, dd3⟩ := dk_rd I2.hok (.inl ed2)
  cases rel3
  refine ⟨b, _, rfl, dd, dd3, hne, hsb, by rw [List.length_map, ← kv_len rk]; unfold kKey at z; rw [List.length_map] at z; exact z, fun h' hd' sb => ?_⟩
  have I3 : Inv X pins σ (upd H2 s1.heap.objs.size (.dK (kKey kvs))) { s2 with heap := h' } := by
    refine Inv.write (t' := s2.toks) I2 (x := s1.heap.objs.size) (e := s1.heap.objs.size) (by rw [ed2]; trivial) (.inl rfl) (fun c u hc e => (sb.2 c hc).trans e) ?_ ⟨z, hsm, _, kv_key rk, hd'⟩
    obtain ⟨o, _, _, ho, _⟩ := hd'
    exact ⟨o, ho⟩
  refine keywords_run (s := { s2 with heap := h' }) hd' ⟨I3.kIn, ?_⟩
  exact run_makeA M F hr hx I3 r rk q2
end
end L2.LqX


set_option Elab.async false
set_option linter.all false
set_option maxRecDepth 100000
set_option maxHeartbeats 4000000
namespace L2.LqX
open PySem PySem.Spec PyProof.Rows L2
/-- a method of one's own, as Python itself calls it -/
structure OwnM (K : PySem.W.Frag) (C : Addr) (name : Str) (g : Addr) : Prop where
  at_ : PySem.W.findIn K (.ref C) name = some (some (.ref g))
  fn : PySem.W.isFn K (.ref g) = true
  fi : PySem.W.fnIn K g = true
section
variable {X : Cx} {CX : CXT} {k : Nat} {g C : Addr} {sp : Sp} {E : XK} {pins : List (Addr × Obj)} {σ : L2.St} {H : Hp} {s : Shared} {Q : VK} {us : List Value} {vs : List V}
/-- the callee runs, somewhere behind the body's frame -/
theorem run_at {A' : Around} (F : FnR X.prog X.w X.K X.mg X.base CX k g sp) (hr : Room k A') (e0 : Env0 X.prog X.w X.K X.mg X.base A' X.stack s H) (hx : Passes CX X E) (I : Inv X pins σ H s) (r : Vals vs us) (h : sp vs H Q E) :
    wpAny (model X.prog X.w) A' (call (.ref g) us) (EP X pins σ Q) X.xe s := by
  refine wpAny_call (codeAny_mono (F A' X.stack s H us vs Q E hr e0 r h) fun r s' hq => ?_)
  cases r with
  | error e => exact hx pins σ H s e s' I hq
  | ok fl =>
    cases fl with
    | ret u => exact I.after hq
    | next => exact False.elim hq
    | brk => exact False.elim hq
    | cont => exact False.elim hq
theorem ins_at {a dx : Addr} {fs : List (Str × V)} (I : Inv X pins σ H s) (e : H a = some (.ins C dx fs)) : ∃ ox od, PySem.W.InstAt s.heap a ox C od := by
  obtain ⟨mA, O, _⟩ := ins_get I.hok e
  obtain ⟨od, J, _⟩ := O.look
  exact ⟨_, _, J⟩
/-- o[i] by the own method -/
def rIxO (C : Addr) (sp : Sp) (E : XK) : R2 := fun x y H Q => ∃ (a dx : Addr) (fs : List (Str × V)), x = .ref a ∧ H a = some (.ins C dx fs) ∧ sp [x, y] H Q E
theorem ix_own (m : OwnM X.K C "__getitem__" g) (F : FnR X.prog X.w X.K X.mg X.base CX k g sp) (hr : Room (k + 1) X.A) (hx : Passes CX X E) {b : Expr} {a : Expr} {ta tb : TE} {pos : Pos} (ha : PE X a ta) (hb : PE X b tb)
    (hsl : ∀ x i, subscripted b true x i = runValue (.builtin "lifetime.subscript" ⟨[x, i], []⟩)) : PE X (.Subscript a b pos) (tOp (rIxO C sp E) ta tb) := by
  refine ⟨fun pins s σ H Q I h => ?_⟩
  refine Subscript_ (binT ha hb I h fun v u s2 x y H2 I2 rx ry q => ?_)
  obtain ⟨c, dx, fs, rfl, e, q⟩ := q
  obtain rfl : v = Value.ref c := rx
  obtain ⟨ox, od, J⟩ := ins_at I2 e
  obtain ⟨m0, F0⟩ := I2.fr
  exact PySem.W.sub_K F0 I2.mod.kin J m.at_ m.fi m.fn (run_at (us := [.ref c, u]) (vs := [.ref c, y]) F hr.in1 I2.env0.in1 hx I2 (.cons rfl (.cons ry .nil)) q) (hsl _ _)
/-- str(o) by the own method -/
def rStrO (C : Addr) (sp : Sp) (E : XK) : List V → Hp → VK → Prop := fun xs H Q => ∃ (a dx : Addr) (fs : List (Str × V)), xs = [.ref a] ∧ H a = some (.ins C dx fs) ∧ sp [.ref a] H (fun v H' => ∃ z, v = .str z ∧ Q v H') E
theorem call_strO (m : OwnM X.K C "__str__" g) (F : FnR X.prog X.w X.K X.mg X.base CX k g sp) (hr : Room (k + 2) X.A) (hx : Passes CX X E) : CallR X (.type "str") (rStrO C sp E) := by
  intro pins s σ H xs us Q I r ⟨c, dx, fs, ex, e, q⟩
  subst ex
  cases r with
  | cons r1 r2 =>
    cases r2
    rename_i u
    obtain rfl : u = Value.ref c := r1
    obtain ⟨ox, od, J⟩ := ins_at I e
    refine PySem.W.kso_call (hr.in1.in1.units0) I.kIn J m.at_ m.fn (wpAny_mono (run_at (us := [.ref c]) (vs := [.ref c]) F hr.in1.in1 I.env0.in1.in1 hx I (.cons rfl .nil) q) (fun v s' hv => ?_) fun _ _ z => z)
    obtain ⟨y, H', I', ry, z, rfl, q'⟩ := hv
    obtain ⟨t, rfl⟩ : ∃ t, v = .str z t := ry
    exact ⟨.str z, H', I', ⟨t, rfl⟩, q'⟩
/-- o == p by the own method, where both are of one class -/
def rEqO (C : Addr) (sp : Sp) (E : XK) : R2 := fun x y H Q => ∃ (a dx : Addr) (fs : List (Str × V)) (b dy : Addr) (gs : List (Str × V)), x = .ref a ∧ H a = some (.ins C dx fs) ∧ y = .ref b ∧ H b = some (.ins C dy gs) ∧ sp [x, y] H (fun v H' => (∃ t, v = .bl t) ∧ Q v H') E
theorem op_eqO (m : OwnM X.K C "__eq__" g) (F : FnR X.prog X.w X.K X.mg X.base CX k g sp) (hr : Room k X.A) (hx : Passes CX X E) : OpR X (compareOp .Eq) (rEqO C sp E) := by
  intro pins s σ H x y v u Q I rx ry ⟨a, dx, fs, b, dy, gs, ex, e, ey, e2, q⟩
  subst ex ey
  obtain rfl : v = Value.ref a := rx
  obtain rfl : u = Value.ref b := ry
  obtain ⟨ox, od, J⟩ := ins_at I e
  obtain ⟨oy, oe, J2⟩ := ins_at I e2
  obtain ⟨m0, F0⟩ := I.fr
  unfold compareOp
  refine PySem.W.cmp_K (op := .Eq) (tb := .ref C) (hr.units0) F0 I.mod.kin J (J2.type) (by unfold PySem.W.notFirst; simp) m.at_ m.fn (wpAny_mono (run_at (us := [.ref a, .ref b]) (vs := [.ref a, .ref b]) F hr I.env0 hx I (.cons rfl (.cons rfl .nil)) q) (fun v s' hv => ?_) fun _ _ z => z)
  obtain ⟨z, H', I', rz, ⟨t, rfl⟩, q'⟩ := hv
  obtain rfl : v = Value.bool t := rz
  exact ⟨.bl t, H', I', rfl, q'⟩
end
end L2.LqX


set_option Elab.async false
set_option linter.all false
set_option maxRecDepth 100000
set_option maxHeartbeats 4000000
namespace L2.LqX
open PySem PySem.Spec PyProof.Rows L2
section
variable {X : Cx} {pos : Pos}
/-- a, .., *b, .. = a list -/
def gStar (K : PySem.W.Frag) (n i : Nat) (t : TGs) : TG := fun v σ H Q => ∃ a xs, v = .ref a ∧ SqL K H a xs ∧ n ≤ xs.length + 1 ∧
  ∀ d, H d = none → t (xs.take i ++ [.ref d] ++ (xs.drop i).drop (xs.length + 1 - n)) σ (upd H d (.lst ((xs.drop i).take (xs.length + 1 - n)))) Q
theorem vals_take : ∀ {n : Nat} {xs : List V} {us : List Value}, Vals xs us → Vals (xs.take n) (us.take n)
  | 0, _, _, _ => by rw [List.take_zero, List.take_zero]; exact .nil
  | n + 1, _, _, .nil => .nil
  | n + 1, _, _, .cons a r => .cons a (vals_take r)
theorem vals_drop : ∀ {n : Nat} {xs : List V} {us : List Value}, Vals xs us → Vals (xs.drop n) (us.drop n)
  | 0, _, _, r => r
  | n + 1, _, _, .nil => .nil
  | n + 1, _, _, .cons _ r => vals_drop (n := n) r
theorem pg_star {es : List Expr} {k n i : Nat} {t : TGs} (hc : X.calm = true) (h : PGs X es t) (hi : i < n)
    (hn : (assignEach es X.env).length = n := by rfl) (hst : (assignEach es X.env).findIdx? (·.1) = some i := by rfl) : PG X (.Tuple es k pos) (gStar X.K n i t) := by
  refine ⟨fun pins s σ H v u Q I r hw => ?_⟩
  obtain ⟨a, xs, e1, hq, hle, hw⟩ := hw
  subst e1
  cases r
  obtain ⟨its, rv, pl, hz⟩ := I.list hq
  have hlen := rv.length
  have hl : s.heap.IsList a its.toArray := by
    obtain ⟨o, m, e, c, d, q⟩ := pl
    exact ⟨o, e, c, m, q⟩
  have hlt : a ≠ s.heap.objs.size := by obtain ⟨o, ho, _⟩ := hl; exact Nat.ne_of_lt (Heap.lt_size ho)
  rw [PyProof.Rows.assign_Tuple]
  refine wpAny_bind (wpAny_standAt ?_)
  unfold unpack
  rw [hn, hst]
  refine wpAny_bind (wpAny_holding ?_)
  unfold unpackItems
  refine wpAny_bind ?_
  unfold notIterableAtAll
  refine wpAny_bind (wpAny_specialOf hl.typeIs F.slot_list_iter.lookup ?_)
  refine wpAny_pure ?_
  simp only [Bool.false_eq_true, if_false]
  refine wpAny_bind (wpAny_holding (wpAny_pyIter_list hl ?_))
  refine wpAny_bind (wpAny_holding (PySem.W.kun_draw hlt i 0 _ _ ⟨_, Heap.get?_push_size _ rfl, rfl, rfl⟩ (hl.push _) (by simp; omega) fun h₁ hit₁ hs₁ => ?_))
  have hl₁ : h₁.IsList a its.toArray := (hl.push _).extBut hs₁.extBut hlt
  rw [Nat.zero_add] at hit₁
  have hit₁' := hit₁
  obtain ⟨oi, hoi, _⟩ := hit₁'
  have hl₁' := hl₁
  obtain ⟨ol, hol, _⟩ := hl₁'
  rw [List.drop_zero]
  have hfl : (its.take i).length = i := by rw [List.length_take]; omega
  rw [if_neg (show ¬ ((its.take i).length < i) by rw [hfl]; omega)]
  refine wpAny_bind (wpAny_holding (PySem.W.kun_collect (s := { s with heap := h₁ }) (T := "list_iterator") (.inr (.inr (.inl rfl))) (Walks.list (A := X.A.in1) (I.ok.hd hc) s.heap.objs.size a hlt its.toArray) (fun j u st => st.1.typeIs) (k := i) (by simp; omega) ⟨hit₁, hl₁⟩ (Heap.lt_size hoi) (Heap.lt_size hol) (fun h₂ tk hk => ?_) (by simp; omega)))
  have hrl : (its.drop i).length = its.length - i := by rw [List.length_drop]
  have hmid : (its.drop i).length - (n - 1 - i) = xs.length + 1 - n := by rw [hrl]; omega
  show wpAny _ _ (if (its.drop i).length < n - 1 - i then _ else _) _ _ _
  rw [if_neg (by rw [hrl]; omega)]
  show wpAny _ _ (newList ((its.drop i).take ((its.drop i).length - (n - 1 - i))) >>= fun d => pure (its.take i ++ [d] ++ (its.drop i).drop ((its.drop i).length - (n - 1 - i)))) _ _ _
  rw [hmid]
  have I2 : Inv X pins σ H { s with heap := h₂, toks := tk } := I.kept fun b o e => hk b o (Nat.ne_of_lt (Heap.lt_size e)) (hs₁.extBut b o (Nat.ne_of_lt (Heap.lt_size e)) (Heap.get?_push_of_some _ e))
  have hzm : ((its.drop i).take (xs.length + 1 - n)).length ≤ sizeLine := by rw [List.length_take, hrl]; omega
  refine wpAny_bind (wpAny_newList ?_ hzm)
  refine wpAny_pure ?_
  have rm : Vals ((xs.drop i).take (xs.length + 1 - n)) ((its.drop i).take (xs.length + 1 - n)) := vals_take (vals_drop rv)
  have I3 := Inv.lnew (t' := tk) I2 rm (by rw [rm.length]; exact hzm)
  exact h.run pins _ σ _ _ _ Q I3 (((vals_take rv).append (.cons (show RelV (V.ref h₂.objs.size) (Value.ref h₂.objs.size) from rfl) .nil)).append (vals_drop (vals_drop rv))) (hw _ I2.fresh)
end
end L2.LqX


set_option Elab.async false
set_option linter.all false
set_option maxRecDepth 100000
set_option maxHeartbeats 4000000
namespace L2.LqX
open PySem PySem.Spec PyProof.Rows L2
/-! zip of two or three, each a list (true) or a tuple (false) -/
def iterK (k : Bool) (h : Heap) (it l : Addr) (i : Nat) : Prop := match k with | true => h.IsListIter it l i | false => h.IsTupleIter it l i
def seqK (k : Bool) (h : Heap) (l : Addr) (items : Array Value) : Prop := match k with | true => h.IsList l items | false => h.IsTuple l items
def SqK (K : PySem.W.Frag) (k : Bool) (H : Hp) (a : Addr) (xs : List V) : Prop := match k with | true => SqL K H a xs | false => SqT K H a xs
def itObj (k : Bool) (l : Addr) : Obj := match k with | true => { cls := .type "list_iterator", data := .fields #[.ref l, .int 0 0] } | false => { cls := .type "tuple_iterator", data := .fields #[.ref l, .int 0 0] }
theorem draws_k {P : Program} {w : World} {A : Around} (k : Bool) (hh : A.handled = none) (it l : Addr) (hne : l ≠ it) (items : Array Value) : Draws P w A it [it, l] items.size (fun i v => items[i]? = some v) (fun i h => iterK k h it l i ∧ seqK k h l items) := by
  cases k
  · exact Draws.tuple hh it l hne items
  · exact Draws.list hh it l hne items
theorem begins_k (k : Bool) (l : Addr) (items : Array Value) : Begins (.ref l) (itObj k l) (fun h => seqK k h l items) := by
  cases k
  · exact begins_tuple l items
  · exact begins_list l items
theorem iterK_at {k : Bool} {h h' : Heap} {it l : Addr} {i : Nat} (x : iterK k h it l i) (e : ∀ o, h.get? it = some o → h'.get? it = some o) : iterK k h' it l i := by
  cases k
  · exact Heap.IsTupleIter.at x e
  · exact Heap.IsListIter.at x e
theorem iterK_obj {k : Bool} {h : Heap} {it l : Addr} {i : Nat} (x : iterK k h it l i) : ∃ o, h.get? it = some o ∧ ∀ v, o.data ≠ .cell v := by
  cases k
  · obtain ⟨o, e, _, d⟩ := (x : h.IsTupleIter it l i)
    exact ⟨o, e, fun v q => by rw [d] at q; cases q⟩
  · obtain ⟨o, e, _, d⟩ := (x : h.IsListIter it l i)
    exact ⟨o, e, fun v q => by rw [d] at q; cases q⟩
theorem iterK_new {k : Bool} {h : Heap} {it l : Addr} (e : h.get? it = some (itObj k l)) : iterK k h it l 0 := by
  cases k
  · exact ⟨_, e, rfl, rfl⟩
  · exact ⟨_, e, rfl, rfl⟩
theorem seqK_lt {k : Bool} {h : Heap} {l : Addr} {items : Array Value} (x : seqK k h l items) : l < h.objs.size := by
  cases k
  · obtain ⟨o, e, _⟩ := (x : h.IsTuple l items)
    exact Heap.lt_size e
  · obtain ⟨o, e, _⟩ := (x : h.IsList l items)
    exact Heap.lt_size e
section
variable {X : Cx} {pins : List (Addr × Obj)} {σ : L2.St} {H : Hp} {s : Shared}
theorem inv_k {k : Bool} {a : Addr} {xs : List V} (I : Inv X pins σ H s) (h : SqK X.K k H a xs) : ∃ its : List Value, Vals xs its ∧ seqK k s.heap a its.toArray ∧ xs.length ≤ sizeLine := by
  cases k
  · exact I.tuple h
  · obtain ⟨its, r, p, z⟩ := I.list h
    exact ⟨its, r, p.isList, z⟩
theorem inj_k {k : Bool} {a : Addr} {xs ys : List V} (I : Inv X pins σ H s) (h : SqK X.K k H a xs) (h' : SqK X.K k H a ys) : xs = ys := by
  cases k
  · exact I.tuple_inj h h'
  · exact I.list_inj h h'
end
def Itz2 (K : PySem.W.Frag) (k1 k2 : Bool) (a b : Addr) : It :=
  ⟨fun i H => ∃ (xs ys : List V) (x y : V), SqK K k1 H a xs ∧ SqK K k2 H b ys ∧ xs[i]? = some x ∧ ys[i]? = some y,
    fun i H v H' => ∃ T x y, v = .ref T ∧ H T = none ∧ H' = upd H T (.tup [x, y]) ∧ (∀ xs, SqK K k1 H a xs → xs[i]? = some x) ∧ ∀ ys, SqK K k2 H b ys → ys[i]? = some y,
    fun i H => ∃ xs ys : List V, SqK K k1 H a xs ∧ SqK K k2 H b ys ∧ i ≤ xs.length ∧ i ≤ ys.length ∧ (i = xs.length ∨ i = ys.length)⟩
theorem sep2 (n a b : Nat) (ha : a < n) (hb : b < n) : ZipSep2 (n + 4) (n + 2) (n + 3) n (n + 1) [n, a] [n + 1, b] := by
  constructor <;> simp only [List.mem_cons, List.not_mem_nil, or_false, ne_eq, not_or] <;> (try simp only [show ∀ x y : Nat, (@Eq Addr x y) = (@Eq Nat x y) from fun _ _ => rfl]) <;> first | omega | exact .inl rfl | exact .inl trivial
theorem turn_z2 {P : Program} {w : World} {K : PySem.W.Frag} {elts : List Expr} {kk : Nat} {tpos : Pos} {k1 k2 : Bool} {a b z TI TO i1 i2 : Addr} (S : ZipSep2 z TI TO i1 i2 [i1, a] [i2, b]) (na : a ≠ i1) (nb : b ≠ i2) :
    Turn P w K (.Tuple elts kk tpos) (Itz2 K k1 k2 a b) [z, TI, TO, i1, i2] z (fun i h => IsZip h z TI TO .none ∧ IsTupOf2 h TI (.ref i1) (.ref i2) ∧ (∃ x y, IsTupOf2 h TO x y) ∧ iterK k1 h i1 a i ∧ iterK k2 h i2 b i) where
  mem := by simp
  obj := fun i h st c hc => by
    obtain ⟨hz, hTI, ⟨x, y, hTO⟩, h1, h2⟩ := st
    have e' : c = z ∨ c = TI ∨ c = TO ∨ c = i1 ∨ c = i2 := by simpa using hc
    rcases e' with q | q | q | q | q
    · rw [q]; exact ⟨_, hz, fun v q => nomatch q⟩
    · rw [q]; exact ⟨_, hTI, fun v q => nomatch q⟩
    · rw [q]; exact ⟨_, hTO, fun v q => nomatch q⟩
    · rw [q]; exact iterK_obj h1
    · rw [q]; exact iterK_obj h2
  keep := fun i h h' st k => by
    obtain ⟨hz, hTI, ⟨x, y, hTO⟩, h1, h2⟩ := st
    exact ⟨k z (by simp) _ hz, k TI (by simp) _ hTI, ⟨x, y, k TO (by simp) _ hTO⟩, iterK_at h1 fun o q => k i1 (by simp) o q, iterK_at h2 fun o q => k i2 (by simp) o q⟩
  item := by
    intro X hP hw hK hc i pins s σ H E I hf st hg
    subst hP hw hK
    obtain ⟨hz, hTI, ⟨x0, y0, hTO⟩, h1, h2⟩ := st
    obtain ⟨xs, ys, x, y, hqx, hqy, hx, hy⟩ := hg
    obtain ⟨its, rv, p, _⟩ := inv_k I hqx
    obtain ⟨its2, rv2, p2, _⟩ := inv_k I hqy
    obtain ⟨u, hu, ru⟩ := rv.get hx
    obtain ⟨u2, hu2, ru2⟩ := rv2.get hy
    have hzl : z < s.heap.objs.size := Heap.lt_size hz
    have l1 : i < its.toArray.size := by obtain ⟨q, _⟩ := List.getElem?_eq_some_iff.mp hu; simpa using q
    have l2 : i < its2.toArray.size := by obtain ⟨q, _⟩ := List.getElem?_eq_some_iff.mp hu2; simpa using q
    refine wpAny_pyNext_zipD2_item S (draws_k k1 (A := X.A.in1) (I.ok.hd hc) i1 a na its.toArray) (draws_k k2 (A := X.A.in1) (I.ok.hd hc) i2 b nb its2.toArray) hz hTI hTO ⟨h1, p⟩ ⟨h2, p2⟩ l1 l2 fun v1 v2 h' tk e1 e2 z' TO' h1' h2' hT hsz hk => ?_
    have ev1 : v1 = u := by simpa [hu] using e1.symm
    have ev2 : v2 = u2 := by simpa [hu2] using e2.symm
    subst ev1 ev2
    refine ⟨_, rfl, wpAny_letOwnedTupleGo_zip (s := { s with heap := h', toks := tk }) z' fun h'' z'' sb => ?_⟩
    have hT2 : h''.get? s.heap.objs.size = some { cls := .type "tuple", data := .seq #[v1, v2] } := (sb.2 _ (Nat.ne_of_gt hzl)).trans hT
    have new : ObjOk X.prog X.w (upd H s.heap.objs.size (.tup [x, y])) h'' s.heap.objs.size (.tup [x, y]) :=
      ⟨by show 2 ≤ sizeLine; decide, [v1, v2], .cons ru (.cons ru2 .nil), ⟨_, hT2, rfl, _, rfl⟩⟩
    have I1 : Inv X pins σ (upd H s.heap.objs.size (.tup [x, y])) { s with heap := h'', toks := tk } :=
      I.turnedNew (t' := tk) (ch := [z, TI, TO, i1, i2]) (fun c o hb q => (sb.2 c (fun q' => hb (by simp [q']))).trans (hk c o (fun q' => hb (by simp [q'])) (fun q' => hb (by simp [q'])) (fun q' => hb (by simp [q'])) (fun q' => hb (by simp [q'])) q)) hf (Nat.le_refl _) new
    refine ⟨.ref s.heap.objs.size, _, I1, rfl, ⟨_, x, y, rfl, I.hok.fresh (Nat.le_refl _), rfl, fun l hl => by rw [inj_k I hl hqx]; exact hx, fun l hl => by rw [inj_k I hl hqy]; exact hy⟩, ⟨z'', ?_, ⟨v1, v2, ?_⟩, ?_, ?_⟩, fun c hcm => ?_⟩
    · exact (sb.2 _ S.TIz).trans (hk _ _ S.TIz S.TITO S.TIi1 S.TIi2 hTI)
    · exact (sb.2 _ S.TOz).trans TO'
    · exact iterK_at h1'.1 fun o q => (sb.2 _ S.zi1.symm).trans q
    · exact iterK_at h2'.1 fun o q => (sb.2 _ S.zi2.symm).trans q
    · have hlt : c < s.heap.objs.size := by
        have e' : c = z ∨ c = TI ∨ c = TO ∨ c = i1 ∨ c = i2 := by simpa using hcm
        rcases e' with q | q | q | q | q
        · rw [q]; exact hzl
        · rw [q]; exact Heap.lt_size hTI
        · rw [q]; exact Heap.lt_size hTO
        · rw [q]; obtain ⟨_, e1, _⟩ := iterK_obj h1; exact Heap.lt_size e1
        · rw [q]; obtain ⟨_, e2, _⟩ := iterK_obj h2; exact Heap.lt_size e2
      rw [upd_ne (Nat.ne_of_lt hlt)]
      exact (hf c hcm).1
  done := by
    intro X hP hw hK hc i pins s σ H E I hf st hg
    subst hP hw hK
    obtain ⟨hz, hTI, ⟨x0, y0, hTO⟩, h1, h2⟩ := st
    obtain ⟨xs, ys, hqx, hqy, le1, le2, hend⟩ := hg
    obtain ⟨its, rv, p, _⟩ := inv_k I hqx
    obtain ⟨its2, rv2, p2, _⟩ := inv_k I hqy
    have l1 := rv.length
    have l2 := rv2.length
    exact wpAny_pyNext_zipD2_end S (draws_k k1 (A := X.A.in1) (I.ok.hd hc) i1 a na its.toArray) (draws_k k2 (A := X.A.in1) (I.ok.hd hc) i2 b nb its2.toArray) hz hTI hTO ⟨h1, p⟩ ⟨h2, p2⟩ (by simp; omega) (by simp; omega) (by simp; omega) fun h' tk hk => ⟨rfl, I.turnedL (t' := tk) (ch := [z, TI, TO, i1, i2]) (fun c o hb q =>
      hk c o (fun q' => hb (by simp [q'])) (fun q' => hb (by simp [q'])) (fun q' => hb (by simp [q'])) (fun q' => hb (by simp [q'])) q) hf⟩
  self := fun A i s Q E st h => wpAny_pyIter_zip st.1 h
def iZip2 (K : PySem.W.Frag) (k1 k2 : Bool) (ta : TA) : TI := fun σ H R => ta σ H fun vs H1 => ∃ a b xs ys, vs = [.ref a, .ref b] ∧ SqK K k1 H1 a xs ∧ SqK K k2 H1 b ys ∧ R (Itz2 K k1 k2 a b) H1
theorem pi_z2 {X : Cx} {k1 k2 : Bool} {e e2 : Expr} {ta : TA} {p pos tpos : Pos} {elts : List Expr} {kk : Nat} (hg : Gl X "zip") (hm : X.mg "zip" = none) (ha : PA X [e, e2] ta)
    (hs : starEach [e, e2] X.env = (false, eval e X.env) :: starEach [e2] X.env := by rfl) (hpl : (backTo pos (starEach [e2] X.env)).any (·.1) = false := by rfl) :
    PI X (.Tuple elts kk tpos) (.Call (.Name "zip" p) [e, e2] [] pos) (iZip2 X.K k1 k2 ta) := by
  refine ⟨fun pins s σ H R I h => ?_⟩
  refine Call_ (ld_blt I hg hm PyProof.Rows.boot_zip (PyProof.Rows.callWith_type1 (thn (ha.run pos pins s σ H _ I h) fun us s1 ⟨vs, H1, I1, r1, q1⟩ => ?_) hs hpl))
  obtain ⟨a, b, xs, ys, ex, hqx, hqy, q⟩ := q1
  subst ex
  cases r1 with
  | cons r rr =>
    cases rr with
    | cons r' rr =>
      cases rr
      cases r
      cases r'
      obtain ⟨its, rv, p1, _⟩ := inv_k I1 hqx
      obtain ⟨its2, rv2, p2, _⟩ := inv_k I1 hqy
      have la := seqK_lt p1
      have lb := seqK_lt p2
      refine zip_begins2 (begins_k k1 a its.toArray) (begins_k k2 b its2.toArray) p1 p2 fun h' hz hTI hTO h1 h2 hsz hk => wpAny_pyIter_zip hz ?_
      have I2 : Inv X pins σ H1 { s1 with heap := h' } := I1.kept (t' := s1.toks) hk
      refine ⟨s1.heap.objs.size + 4, [s1.heap.objs.size + 4, s1.heap.objs.size + 2, s1.heap.objs.size + 3, s1.heap.objs.size, s1.heap.objs.size + 1], _, _, H1, rfl, I2, turn_z2 (sep2 s1.heap.objs.size a b la lb) (Nat.ne_of_lt la) (Nat.ne_of_lt (Nat.lt_succ_of_lt lb)), ⟨hz, hTI, ⟨_, _, hTO⟩, iterK_new h1, iterK_new h2⟩, fun c hcm => ?_, q⟩
      have hle : s1.heap.objs.size ≤ c := by
        have e' : c = s1.heap.objs.size + 4 ∨ c = s1.heap.objs.size + 2 ∨ c = s1.heap.objs.size + 3 ∨ c = s1.heap.objs.size ∨ c = s1.heap.objs.size + 1 := by simpa using hcm
        rcases e' with z | z | z | z | z <;> rw [z] <;> first | exact Nat.le_refl _ | exact Nat.le_add_right _ _
      exact I1.fpOk hle (I1.hok.fresh hle)
theorem walk_z2 {K : PySem.W.Frag} {k1 k2 : Bool} {a b : Addr} {xs ys : List V} {n : Nat} (hn : n = min xs.length ys.length) : Walk (Itz2 K k1 k2 a b) n (fun H => SqK K k1 H a xs ∧ SqK K k2 H b ys) (YPair (fun i => xs[i]?) (fun i => ys[i]?)) := by
  subst hn
  refine ⟨fun i _ hi q => ?_, fun _ q => ⟨xs, ys, q.1, q.2, by omega, by omega, by omega⟩, fun i H v H' _ q y => ?_⟩
  · have h1 : i < xs.length := by omega
    have h2 : i < ys.length := by omega
    exact ⟨xs, ys, xs[i], ys[i], q.1, q.2, by simp [h1], by simp [h2]⟩
  · obtain ⟨T, x, z, h1, h2, h3, h4, h5⟩ := y
    exact ⟨T, x, z, h1, h2, h3, h4 xs q.1, h5 ys q.2⟩
def Itz3 (K : PySem.W.Frag) (k1 k2 k3 : Bool) (a b c : Addr) : It :=
  ⟨fun i H => ∃ (xs ys zs : List V) (x y z : V), SqK K k1 H a xs ∧ SqK K k2 H b ys ∧ SqK K k3 H c zs ∧ xs[i]? = some x ∧ ys[i]? = some y ∧ zs[i]? = some z,
    fun i H v H' => ∃ T x y z, v = .ref T ∧ H T = none ∧ H' = upd H T (.tup [x, y, z]) ∧ (∀ xs, SqK K k1 H a xs → xs[i]? = some x) ∧ (∀ ys, SqK K k2 H b ys → ys[i]? = some y) ∧ ∀ zs, SqK K k3 H c zs → zs[i]? = some z,
    fun i H => ∃ xs ys zs : List V, SqK K k1 H a xs ∧ SqK K k2 H b ys ∧ SqK K k3 H c zs ∧ i ≤ xs.length ∧ i ≤ ys.length ∧ i ≤ zs.length ∧ (i = xs.length ∨ i = ys.length ∨ i = zs.length)⟩
theorem sep3 (n a b c : Nat) (ha : a < n) (hb : b < n) (hc : c < n) : ZipSep3 (n + 5) (n + 3) (n + 4) n (n + 1) (n + 2) [n, a] [n + 1, b] [n + 2, c] := by
  constructor <;> simp only [List.mem_cons, List.not_mem_nil, or_false, ne_eq, not_or] <;> (try simp only [show ∀ x y : Nat, (@Eq Addr x y) = (@Eq Nat x y) from fun _ _ => rfl]) <;> first | omega | exact .inl rfl | exact .inl trivial
theorem turn_z3 {P : Program} {w : World} {K : PySem.W.Frag} {elts : List Expr} {kk : Nat} {tpos : Pos} {k1 k2 k3 : Bool} {a b c z TI TO i1 i2 i3 : Addr} (S : ZipSep3 z TI TO i1 i2 i3 [i1, a] [i2, b] [i3, c]) (na : a ≠ i1) (nb : b ≠ i2) (nc : c ≠ i3) :
    Turn P w K (.Tuple elts kk tpos) (Itz3 K k1 k2 k3 a b c) [z, TI, TO, i1, i2, i3] z (fun i h => IsZip h z TI TO .none ∧ IsTupOf3 h TI (.ref i1) (.ref i2) (.ref i3) ∧ (∃ x y t, IsTupOf3 h TO x y t) ∧ iterK k1 h i1 a i ∧ iterK k2 h i2 b i ∧ iterK k3 h i3 c i) where
  mem := by simp
  obj := fun i h st d hc => by
    obtain ⟨hz, hTI, ⟨x, y, t, hTO⟩, h1, h2, h3⟩ := st
    have e' : d = z ∨ d = TI ∨ d = TO ∨ d = i1 ∨ d = i2 ∨ d = i3 := by simpa using hc
    rcases e' with q | q | q | q | q | q
    · rw [q]; exact ⟨_, hz, fun v q => nomatch q⟩
    · rw [q]; exact ⟨_, hTI, fun v q => nomatch q⟩
    · rw [q]; exact ⟨_, hTO, fun v q => nomatch q⟩
    · rw [q]; exact iterK_obj h1
    · rw [q]; exact iterK_obj h2
    · rw [q]; exact iterK_obj h3
  keep := fun i h h' st k => by
    obtain ⟨hz, hTI, ⟨x, y, t, hTO⟩, h1, h2, h3⟩ := st
    exact ⟨k z (by simp) _ hz, k TI (by simp) _ hTI, ⟨x, y, t, k TO (by simp) _ hTO⟩, iterK_at h1 fun o q => k i1 (by simp) o q, iterK_at h2 fun o q => k i2 (by simp) o q, iterK_at h3 fun o q => k i3 (by simp) o q⟩
  item := by
    intro X hP hw hK hc i pins s σ H E I hf st hg
    subst hP hw hK
    obtain ⟨hz, hTI, ⟨x0, y0, t0, hTO⟩, h1, h2, h3⟩ := st
    obtain ⟨xs, ys, zs, x, y, t, hqx, hqy, hqz, hx, hy, ht⟩ := hg
    obtain ⟨its, rv, p, _⟩ := inv_k I hqx
    obtain ⟨its2, rv2, p2, _⟩ := inv_k I hqy
    obtain ⟨its3, rv3, p3, _⟩ := inv_k I hqz
    obtain ⟨u, hu, ru⟩ := rv.get hx
    obtain ⟨u2, hu2, ru2⟩ := rv2.get hy
    obtain ⟨u3, hu3, ru3⟩ := rv3.get ht
    have hzl : z < s.heap.objs.size := Heap.lt_size hz
    have l1 : i < its.toArray.size := by obtain ⟨q, _⟩ := List.getElem?_eq_some_iff.mp hu; simpa using q
    have l2 : i < its2.toArray.size := by obtain ⟨q, _⟩ := List.getElem?_eq_some_iff.mp hu2; simpa using q
    have l3 : i < its3.toArray.size := by obtain ⟨q, _⟩ := List.getElem?_eq_some_iff.mp hu3; simpa using q
    refine wpAny_pyNext_zipD3_item S (draws_k k1 (A := X.A.in1) (I.ok.hd hc) i1 a na its.toArray) (draws_k k2 (A := X.A.in1) (I.ok.hd hc) i2 b nb its2.toArray) (draws_k k3 (A := X.A.in1) (I.ok.hd hc) i3 c nc its3.toArray) hz hTI hTO ⟨h1, p⟩ ⟨h2, p2⟩ ⟨h3, p3⟩ l1 l2 l3 fun v1 v2 v3 h' tk e1 e2 e3 z' TO' h1' h2' h3' hT hsz hk => ?_
    have ev1 : v1 = u := by simpa [hu] using e1.symm
    have ev2 : v2 = u2 := by simpa [hu2] using e2.symm
    have ev3 : v3 = u3 := by simpa [hu3] using e3.symm
    subst ev1 ev2 ev3
    refine ⟨_, rfl, wpAny_letOwnedTupleGo_zip (s := { s with heap := h', toks := tk }) z' fun h'' z'' sb => ?_⟩
    have hT2 : h''.get? s.heap.objs.size = some { cls := .type "tuple", data := .seq #[v1, v2, v3] } := (sb.2 _ (Nat.ne_of_gt hzl)).trans hT
    have new : ObjOk X.prog X.w (upd H s.heap.objs.size (.tup [x, y, t])) h'' s.heap.objs.size (.tup [x, y, t]) :=
      ⟨by show 3 ≤ sizeLine; decide, [v1, v2, v3], .cons ru (.cons ru2 (.cons ru3 .nil)), ⟨_, hT2, rfl, _, rfl⟩⟩
    have I1 : Inv X pins σ (upd H s.heap.objs.size (.tup [x, y, t])) { s with heap := h'', toks := tk } :=
      I.turnedNew (t' := tk) (ch := [z, TI, TO, i1, i2, i3]) (fun c o hb q => (sb.2 c (fun q' => hb (by simp [q']))).trans (hk c o (fun q' => hb (by simp [q'])) (fun q' => hb (by simp [q'])) (fun q' => hb (by simp [q'])) (fun q' => hb (by simp [q'])) (fun q' => hb (by simp [q'])) q)) hf (Nat.le_refl _) new
    refine ⟨.ref s.heap.objs.size, _, I1, rfl, ⟨_, x, y, t, rfl, I.hok.fresh (Nat.le_refl _), rfl, fun l hl => by rw [inj_k I hl hqx]; exact hx, fun l hl => by rw [inj_k I hl hqy]; exact hy, fun l hl => by rw [inj_k I hl hqz]; exact ht⟩, ⟨z'', ?_, ⟨v1, v2, v3, ?_⟩, ?_, ?_, ?_⟩, fun d hcm => ?_⟩
    · exact (sb.2 _ S.TIz).trans (hk _ _ S.TIz S.TITO S.TIi1 S.TIi2 S.TIi3 hTI)
    · exact (sb.2 _ S.TOz).trans TO'
    · exact iterK_at h1'.1 fun o q => (sb.2 _ S.zi1.symm).trans q
    · exact iterK_at h2'.1 fun o q => (sb.2 _ S.zi2.symm).trans q
    · exact iterK_at h3'.1 fun o q => (sb.2 _ S.zi3.symm).trans q
    · have hlt : d < s.heap.objs.size := by
        have e' : d = z ∨ d = TI ∨ d = TO ∨ d = i1 ∨ d = i2 ∨ d = i3 := by simpa using hcm
        rcases e' with q | q | q | q | q | q
        · rw [q]; exact hzl
        · rw [q]; exact Heap.lt_size hTI
        · rw [q]; exact Heap.lt_size hTO
        · rw [q]; obtain ⟨_, e1, _⟩ := iterK_obj h1; exact Heap.lt_size e1
        · rw [q]; obtain ⟨_, e2, _⟩ := iterK_obj h2; exact Heap.lt_size e2
        · rw [q]; obtain ⟨_, e3, _⟩ := iterK_obj h3; exact Heap.lt_size e3
      rw [upd_ne (Nat.ne_of_lt hlt)]
      exact (hf d hcm).1
  done := by
    intro X hP hw hK hc i pins s σ H E I hf st hg
    subst hP hw hK
    obtain ⟨hz, hTI, ⟨x0, y0, t0, hTO⟩, h1, h2, h3⟩ := st
    obtain ⟨xs, ys, zs, hqx, hqy, hqz, le1, le2, le3, hend⟩ := hg
    obtain ⟨its, rv, p, _⟩ := inv_k I hqx
    obtain ⟨its2, rv2, p2, _⟩ := inv_k I hqy
    obtain ⟨its3, rv3, p3, _⟩ := inv_k I hqz
    have l1 := rv.length
    have l2 := rv2.length
    have l3 := rv3.length
    exact wpAny_pyNext_zipD3_end S (draws_k k1 (A := X.A.in1) (I.ok.hd hc) i1 a na its.toArray) (draws_k k2 (A := X.A.in1) (I.ok.hd hc) i2 b nb its2.toArray) (draws_k k3 (A := X.A.in1) (I.ok.hd hc) i3 c nc its3.toArray) hz hTI hTO ⟨h1, p⟩ ⟨h2, p2⟩ ⟨h3, p3⟩ (by simp; omega) (by simp; omega) (by simp; omega) (by simp; omega) fun h' tk hk => ⟨rfl, I.turnedL (t' := tk) (ch := [z, TI, TO, i1, i2, i3]) (fun c o hb q =>
      hk c o (fun q' => hb (by simp [q'])) (fun q' => hb (by simp [q'])) (fun q' => hb (by simp [q'])) (fun q' => hb (by simp [q'])) (fun q' => hb (by simp [q'])) q) hf⟩
  self := fun A i s Q E st h => wpAny_pyIter_zip st.1 h
def iZip3 (K : PySem.W.Frag) (k1 k2 k3 : Bool) (ta : TA) : TI := fun σ H R => ta σ H fun vs H1 => ∃ a b c xs ys zs, vs = [.ref a, .ref b, .ref c] ∧ SqK K k1 H1 a xs ∧ SqK K k2 H1 b ys ∧ SqK K k3 H1 c zs ∧ R (Itz3 K k1 k2 k3 a b c) H1
theorem pi_z3 {X : Cx} {k1 k2 k3 : Bool} {e e2 e3 : Expr} {ta : TA} {p pos tpos : Pos} {elts : List Expr} {kk : Nat} (hg : Gl X "zip") (hm : X.mg "zip" = none) (ha : PA X [e, e2, e3] ta)
    (hs : starEach [e, e2, e3] X.env = (false, eval e X.env) :: starEach [e2, e3] X.env := by rfl) (hpl : (backTo pos (starEach [e2, e3] X.env)).any (·.1) = false := by rfl) :
    PI X (.Tuple elts kk tpos) (.Call (.Name "zip" p) [e, e2, e3] [] pos) (iZip3 X.K k1 k2 k3 ta) := by
  refine ⟨fun pins s σ H R I h => ?_⟩
  refine Call_ (ld_blt I hg hm PyProof.Rows.boot_zip (PyProof.Rows.callWith_type1 (thn (ha.run pos pins s σ H _ I h) fun us s1 ⟨vs, H1, I1, r1, q1⟩ => ?_) hs hpl))
  obtain ⟨a, b, c, xs, ys, zs, ex, hqx, hqy, hqz, q⟩ := q1
  subst ex
  cases r1 with
  | cons r rr =>
    cases rr with
    | cons r' rr =>
      cases rr with
      | cons r'' rr =>
        cases rr
        cases r
        cases r'
        cases r''
        obtain ⟨its, rv, p1, _⟩ := inv_k I1 hqx
        obtain ⟨its2, rv2, p2, _⟩ := inv_k I1 hqy
        obtain ⟨its3, rv3, p3, _⟩ := inv_k I1 hqz
        have la := seqK_lt p1
        have lb := seqK_lt p2
        have lc := seqK_lt p3
        refine zip_begins3 (begins_k k1 a its.toArray) (begins_k k2 b its2.toArray) (begins_k k3 c its3.toArray) p1 p2 p3 fun h' hz hTI hTO h1 h2 h3 hsz hk => wpAny_pyIter_zip hz ?_
        have I2 : Inv X pins σ H1 { s1 with heap := h' } := I1.kept (t' := s1.toks) hk
        refine ⟨s1.heap.objs.size + 5, [s1.heap.objs.size + 5, s1.heap.objs.size + 3, s1.heap.objs.size + 4, s1.heap.objs.size, s1.heap.objs.size + 1, s1.heap.objs.size + 2], _, _, H1, rfl, I2, turn_z3 (sep3 s1.heap.objs.size a b c la lb lc) (Nat.ne_of_lt la) (Nat.ne_of_lt (Nat.lt_succ_of_lt lb)) (Nat.ne_of_lt (Nat.lt_succ_of_lt (Nat.lt_succ_of_lt lc))), ⟨hz, hTI, ⟨_, _, _, hTO⟩, iterK_new h1, iterK_new h2, iterK_new h3⟩, fun d hcm => ?_, q⟩
        have hle : s1.heap.objs.size ≤ d := by
          have e' : d = s1.heap.objs.size + 5 ∨ d = s1.heap.objs.size + 3 ∨ d = s1.heap.objs.size + 4 ∨ d = s1.heap.objs.size ∨ d = s1.heap.objs.size + 1 ∨ d = s1.heap.objs.size + 2 := by simpa using hcm
          rcases e' with z | z | z | z | z | z <;> rw [z] <;> first | exact Nat.le_refl _ | exact Nat.le_add_right _ _
        exact I1.fpOk hle (I1.hok.fresh hle)
/-- a new triple -/
def YTrip (xs ys zs : Nat → Option V) : Nat → Hp → V → Hp → Prop := fun i H v H' => ∃ T x y z, v = .ref T ∧ H T = none ∧ H' = upd H T (.tup [x, y, z]) ∧ xs i = some x ∧ ys i = some y ∧ zs i = some z
theorem walk_z3 {K : PySem.W.Frag} {k1 k2 k3 : Bool} {a b c : Addr} {xs ys zs : List V} {n : Nat} (h1 : xs.length = n) (h2 : ys.length = n) (h3 : zs.length = n) : Walk (Itz3 K k1 k2 k3 a b c) n (fun H => SqK K k1 H a xs ∧ SqK K k2 H b ys ∧ SqK K k3 H c zs) (YTrip (fun i => xs[i]?) (fun i => ys[i]?) (fun i => zs[i]?)) := by
  refine ⟨fun i _ hi q => ?_, fun _ q => ⟨xs, ys, zs, q.1, q.2.1, q.2.2, by omega, by omega, by omega, by omega⟩, fun i H v H' _ q y => ?_⟩
  · have e1 : i < xs.length := by omega
    have e2 : i < ys.length := by omega
    have e3 : i < zs.length := by omega
    exact ⟨xs, ys, zs, xs[i], ys[i], zs[i], q.1, q.2.1, q.2.2, by simp [e1], by simp [e2], by simp [e3]⟩
  · obtain ⟨T, x, y, z, g1, g2, g3, g4, g5, g6⟩ := y
    exact ⟨T, x, y, z, g1, g2, g3, g4 xs q.1, g5 ys q.2.1, g6 zs q.2.2⟩
end L2.LqX


set_option Elab.async false
set_option linter.all false
set_option maxRecDepth 100000
set_option maxHeartbeats 4000000
namespace L2.LqX
open PySem PySem.Spec PyProof.Rows L2
section
variable {P : Program} {w : World} {A : Around} {E : Value → Shared → Prop} {s : Shared}
theorem dictPut_any {d : Addr} {kvs : List (Key × Value)} {k : Key} {key v : Value} {Q : Unit → Shared → Prop} (hkey : keyIs k key = true) (hd : s.heap.DictOf (mixKind P w) d kvs) (hz : kvs.length ≤ sizeLine)
    (hQ : ∀ h', h'.DictOf (mixKind P w) d (stored kvs k v) → Heap.SameBut d s.heap h' → Q () { s with heap := h' }) : wpAny (model P w) A (dictPut d (keyH w k) key v) Q E s := by
  by_cases hin : k ∈ kvs.map (·.1)
  · obtain ⟨o, es, ep, ho, hc, hdat, hk, hp, hnd⟩ := hd
    have hidx : (es.findIdx? fun e => (mixKind P w).is k e.key) = kvs.findIdx? fun kv => decide (kv.1 = k) := by
      have e1 := hp.findIdx k
      obtain ⟨l⟩ := es
      rw [List.findIdx?_toArray]
      exact e1
    obtain ⟨i, hi⟩ : ∃ i, (kvs.findIdx? fun kv => decide (kv.1 = k)) = some i := by
      obtain ⟨kv, m1, m2⟩ := List.mem_map.mp hin
      cases q : kvs.findIdx? fun kv => decide (kv.1 = k) with
      | some i => exact ⟨i, rfl⟩
      | none =>
        have := List.findIdx?_eq_none_iff.mp q kv m1
        rw [decide_eq_true m2] at this
        cases this
    have hany : (kvs.any fun kv => decide (kv.1 = k)) = true := by
      obtain ⟨kv, m1, m2⟩ := List.mem_map.mp hin
      exact List.any_eq_true.mpr ⟨kv, m1, decide_eq_true m2⟩
    rw [hi] at hidx
    unfold dictPut
    refine wpAny_bind (wpAny_dictFind_of (knd := mixKind P w) (k := k) hkey ho hdat hk ?_)
    rw [hidx]
    refine wpAny_updateDict ho hdat (hQ _ ⟨_, _, ep, Heap.get?_update_self _ ho (Obj.isFreed_of_dict (Obj.data_mapDict hdat _)), hc.mapDict _, Obj.data_mapDict hdat _, hk.modify _ _, ?_, ?_⟩ (Heap.SameBut.update ..))
    · rw [stored, if_pos hany]
      have hl : (es.toList.findIdx? fun e => (mixKind P w).is k e.key) = some i := by rw [← hidx]; obtain ⟨l⟩ := es; simp
      have := hp.modify hnd hl v
      obtain ⟨l⟩ := es
      simpa using this
    · rw [stored, if_pos hany, keys_map_store]
      exact hnd
  · have hany : ¬ (kvs.any fun kv => decide (kv.1 = k)) = true := by
      rw [List.any_eq_true]
      rintro ⟨kv, hkv, he⟩
      exact hin (List.mem_map.mpr ⟨kv, hkv, of_decide_eq_true he⟩)
    refine dictPut_new hkey hd hin hz fun h' hd' sb => hQ h' ?_ sb
    rw [stored, if_neg hany]
    exact hd'
theorem merge_one {d a : Addr} {kvs : List (Key × Value)} {k : Key} {u : Value} {Q : Unit → Shared → Prop} (ha : s.heap.DictOf (mixKind P w) a [(k, u)]) (hd : s.heap.DictOf (mixKind P w) d kvs) (hn0 : kvs ≠ []) (hne : a ≠ d) (hsm : (a == sysModules) = false) (hz : kvs.length ≤ sizeLine)
    (hQ : ∀ h', h'.DictOf (mixKind P w) d (stored kvs k u) → Heap.SameBut d s.heap h' → Q () { s with heap := h' }) : wpAny (model P w) A (mergeMapping d (.ref a) false) Q E s := by
  have hT := ha.typeIs
  have hd0 := hd
  obtain ⟨o, es, ep, ho, hc, hdat, hk, hp, hnd⟩ := ha
  obtain ⟨od, esd, epd, hod, hcd, hdatd, hkd, hpd, hndd⟩ := hd
  have hlen : es.size = 1 := by
    have := hp.length
    simpa using this
  unfold mergeMapping
  refine wpAny_bind (wpAny_isInstance hT (b := true) (by first | rfl | kernel_rfl) ?_)
  dsimp only
  rw [if_pos rfl]
  refine wpAny_bind (wpAny_specialOf hT F.slot_dict_iter.lookup ?_)
  rw [show ((some (Value.builtin "dict.__iter__") == some (Value.builtin "dict.__iter__")) = true) from by decide +kernel]
  refine wpAny_bind (wpAny_pure ?_)
  dsimp only
  rw [if_neg (by rw [hsm]; exact Bool.false_ne_true)]
  refine wpAny_bind (wpAny_dictEntries hod hdatd ?_)
  have hem : ¬ esd.isEmpty = true := by
    intro z
    have e1 := hpd.length
    have e2 : esd.size = 0 := by simpa [Array.isEmpty] using z
    have e3 : kvs.length = 0 := by
      rw [← e1]
      simpa using e2
    exact hn0 (List.eq_nil_of_length_eq_zero e3)
  rw [if_neg hem]
  refine wpAny_bind (wpAny_dictEntries ho hdat (wpAny_bind (wpAny_dictEpoch ho hdat (wpAny_bind ?_))))
  rw [hlen, show List.range 1 = [0] from rfl, List.forIn_cons]
  refine wpAny_bind (wpAny_bind (wpAny_dictEntries ho hdat ?_))
  obtain ⟨e, he⟩ : ∃ e, es[0]? = some e := ⟨es[0]'(by omega), Array.getElem?_eq_getElem (by omega)⟩
  have heL : es.toList[0]? = some e := by rw [Array.getElem?_toList]; exact he
  obtain ⟨k0, v, kv, k1, ev⟩ := pairs_at hp heL
  cases kv
  obtain ⟨k', k1', kh⟩ := hk e (Array.mem_of_getElem? he)
  have ek : k' = k := (mixKind P w).inj e.key k' k k1' k1
  subst ek
  rw [he]
  dsimp only
  rw [kh, ev]
  refine wpAny_bind (wpAny_holding ?_)
  rw [if_neg Bool.false_ne_true]
  refine dictPut_any k1 hd0 hz fun h' hd' sb => ?_
  refine wpAny_bind (wpAny_dictEpoch (s := { s with heap := h' }) ((sb.2 a hne).trans ho) hdat ?_)
  rw [if_neg (by simp)]
  refine wpAny_pure ?_
  dsimp only
  rw [List.forIn_nil]
  exact wpAny_pure (wpAny_pure (hQ h' hd' sb))
end
section
variable {X : Cx}
/-- {**d, k: v} -/
def tDisp (td tk tv : TE) : TE := fun σ H Q => ∀ d, H d = none → td σ (upd H d (.dK [])) fun y H1 => ∃ (b : Addr) (kvs : List (Key × V)), y = .ref b ∧ H1 b = some (.dK kvs) ∧ b ≠ d ∧ H1 d = some (.dK []) ∧ kvs ≠ [] ∧ kvs.length < sizeLine ∧
  ∀ c, c ≠ d → H1 c = none → tk σ (upd (upd H1 d (.dK kvs)) c (.dK [])) fun yk H2 => tv σ H2 fun yv H3 => ∃ k : Key, yk = kV k ∧ H3 c = some (.dK []) ∧ H3 d = some (.dK kvs) ∧ Q (.ref d) (upd (upd H3 c (.dK [(k, yv)])) d (.dK (putK kvs k yv)))
theorem pe_disp {ed ek ev : Expr} {td tk tv : TE} {pos : Pos} (hd : PE X ed td) (hk : PE X ek tk) (hv : PE X ev tv) : PE X (.Dict [none, some ek] [ed, ev] pos) (tDisp td tk tv) := by
  refine ⟨fun pins s σ H Q I h => ?_⟩
  show wpAny _ _ (do standAt pos; dictDisplay [(none, do let x ← eval ed X.env; standAt pos; pure x), (some (eval ek X.env), do let x ← eval ev X.env; standAt pos; pure x)]) _ _ _
  refine wpAny_bind (wpAny_standAt ?_)
  unfold dictDisplay
  dsimp only
  rw [List.forIn_cons]
  refine wpAny_bind (wpAny_bind ?_)
  dsimp only
  refine wpAny_bind ?_
  rw [if_pos (show (List.isEmpty ([] : List (Sem Value × Sem Value))) = true from rfl)]
  refine wpAny_pure ?_
  dsimp only
  have hn : H s.heap.objs.size = none := I.fresh
  have hsm : (s.heap.objs.size == sysModules) = false := beq_eq_false_iff_ne.mpr (Nat.ne_of_gt I.big)
  have I1 : Inv X pins σ (upd H s.heap.objs.size (.dK [])) { s with heap := s.heap.push { cls := .type "dict", data := .dict #[] } } :=
    Inv.laid (t' := s.toks) I (fun b u e => Heap.get?_push_of_some _ e) (Nat.le_refl _) ⟨Nat.zero_le _, hsm, [], .nil, Heap.DictOf.new _⟩
  refine wpAny_bind (wpAny_alloc ?_)
  refine wpAny_bind (wpAny_holding (wpAny_bind (thn (hd.run pins _ σ _ _ I1 (h _ hn)) fun v s2 ⟨y, H1, I2, ry, b, kvs, ey, eb, hne, ed0, hk0, hkl, q⟩ => wpAny_bind (wpAny_standAt (wpAny_pure ?_)))))
  subst ey
  obtain rfl : v = Value.ref b := ry
  obtain ⟨z, hsb, vs, rel, dd⟩ := dk_rd I2.hok (.inl eb)
  obtain ⟨_, _, vs0, rel0, dd0⟩ := dk_rd I2.hok (.inl ed0)
  cases rel0
  have hzl : vs.length ≤ sizeLine := by rw [← rel.length]; exact z
  refine wpAny_bind (wpAny_onRaise (wpAny_tryCatch (wpAny_onRaise (wpAny_holding (merge_run dd dd0 hne hsb hzl fun h' hd' sb => ?_)))))
  have I3 : Inv X pins σ (upd H1 s.heap.objs.size (.dK kvs)) { s2 with heap := h' } := by
    refine Inv.write (t' := s2.toks) I2 (x := s.heap.objs.size) (e := s.heap.objs.size) (by rw [ed0]; trivial) (.inl rfl) (fun c u hc e => (sb.2 c hc).trans e) ?_ ⟨z, hsm, vs, rel, hd'⟩
    obtain ⟨o, _, _, ho, _⟩ := hd'
    exact ⟨o, ho⟩
  refine wpAny_pure ?_
  dsimp only
  rw [List.forIn_cons]
  refine wpAny_bind ?_
  dsimp only
  rw [if_neg (by simp)]
  refine wpAny_pure ?_
  dsimp only
  rw [List.forIn_nil]
  refine wpAny_pure ?_
  dsimp only
  refine wpAny_bind ?_
  rw [if_neg (by simp)]
  refine wpAny_bind (wpAny_holding ?_)
  unfold subDict
  refine wpAny_bind (wpAny_alloc ?_)
  refine wpAny_bind (wpAny_holding ?_)
  rw [if_pos (by simp)]
  have hn3 : upd H1 s.heap.objs.size (.dK kvs) h'.objs.size = none := I3.fresh
  have hcd : h'.objs.size ≠ s.heap.objs.size := by
    intro z
    rw [z, upd_same] at hn3
    cases hn3
  have hn4 : H1 h'.objs.size = none := by
    rw [upd_ne hcd] at hn3
    exact hn3
  have hsm3 : (h'.objs.size == sysModules) = false := beq_eq_false_iff_ne.mpr (Nat.ne_of_gt I3.big)
  have I4 : Inv X pins σ (upd (upd H1 s.heap.objs.size (.dK kvs)) h'.objs.size (.dK [])) { s2 with heap := h'.push { cls := .type "dict", data := .dict #[] } } :=
    Inv.laid (s := { s2 with heap := h' }) (t' := s2.toks) I3 (fun b u e => Heap.get?_push_of_some _ e) (Nat.le_refl _) ⟨Nat.zero_le _, hsm3, [], .nil, Heap.DictOf.new _⟩
  refine wpAny_bind ?_
  rw [List.nil_append]
  unfold evalPairs
  refine wpAny_bind (thn (hk.run pins _ σ _ _ I4 (q _ hcd hn4)) fun kv s5 ⟨yk, H5, I5, rk, q5⟩ => ?_)
  refine wpAny_bind (wpAny_holding (wpAny_bind (thn (hv.run pins s5 σ H5 _ I5 q5) fun vv s6 ⟨yv, H6, I6, rv, k, ek2, ec, edd, q6⟩ => wpAny_bind (wpAny_standAt (wpAny_pure ?_)))))
  subst ek2
  unfold evalPairs
  refine wpAny_bind (wpAny_holding (wpAny_pure (wpAny_pure (wpAny_holding ?_))))
  rw [List.forIn_cons]
  refine wpAny_bind ?_
  dsimp only
  obtain ⟨_, _, vs6, rel6, dd6⟩ := dk_rd I6.hok (.inl ec)
  cases rel6
  refine wpAny_bind (wpAny_bind (wpAny_dictSet_pairs (knd := mixKind X.prog X.w) (k := k) (kV_is rk) dd6 (fun h7 hd7 sb7 => ?_) (Nat.zero_le _)))
  refine wpAny_pure ?_
  dsimp only
  rw [List.forIn_nil]
  refine wpAny_pure (wpAny_pure (wpAny_pure ?_))
  have st0 : stored ([] : List (Key × Value)) k vv = [(k, vv)] := by
    unfold stored
    rw [if_neg (by simp)]
    rfl
  rw [st0] at hd7
  have I7 : Inv X pins σ (upd H6 h'.objs.size (.dK [(k, yv)])) { s6 with heap := h7, toks := s6.toks + 1 } := by
    refine Inv.write (t' := s6.toks + 1) I6 (x := h'.objs.size) (e := h'.objs.size) (by rw [ec]; trivial) (.inl rfl) (fun c u hc e => (sb7.2 c hc).trans e) ?_ ⟨by show 1 ≤ sizeLine; decide, hsm3, [(k, vv)], .cons ⟨rfl, rv⟩ .nil, hd7⟩
    obtain ⟨o, _, _, ho, _⟩ := hd7
    exact ⟨o, ho⟩
  have edd7 : upd H6 h'.objs.size (.dK [(k, yv)]) s.heap.objs.size = some (.dK kvs) := by
    rw [upd_ne hcd.symm]
    exact edd
  obtain ⟨z8, _, vs8, rel8, dd8⟩ := dk_rd I7.hok (.inl edd7)
  have h80 : vs8 ≠ [] := by
    intro z
    subst z
    cases rel8
    exact hk0 rfl
  refine wpAny_bind (wpAny_onRaise (wpAny_holding (merge_one (s := { s6 with heap := h7, toks := s6.toks + 1 }) hd7 dd8 h80 hcd hsm3 (by rw [← rel8.length]; exact z8) fun h9 hd9 sb9 => ?_)))
  refine wpAny_pure (wpAny_pure ?_)
  have I9 : Inv X pins σ (upd (upd H6 h'.objs.size (.dK [(k, yv)])) s.heap.objs.size (.dK (putK kvs k yv))) { s6 with heap := h9, toks := s6.toks + 1 } := by
    refine Inv.write (s := { s6 with heap := h7, toks := s6.toks + 1 }) (t' := s6.toks + 1) I7 (x := s.heap.objs.size) (e := s.heap.objs.size) (by rw [edd7]; trivial) (.inl rfl) (fun c u hc e => (sb9.2 c hc).trans e) ?_ ⟨?_, hsm, _, KV.put rel8 k rv, hd9⟩
    · obtain ⟨o, _, _, ho, _⟩ := hd9
      exact ⟨o, ho⟩
    · have := length_putK kvs k yv
      omega
  exact ⟨.ref s.heap.objs.size, _, I9, rfl, q6⟩
end
end L2.LqX


set_option Elab.async false
set_option linter.all false
set_option maxRecDepth 100000
set_option maxHeartbeats 4000000
namespace L2.LqX
open PySem PySem.Spec PyProof.Rows L2
/-- o.m(k = v, ..), the names in the def's order -/
def tMethK (C : Addr) (m : Str) (n : Nat) (sp : Sp) (E : XK) (ta : TE) (tk : TA) : TE := fun σ H Q => ta σ H fun x H1 => ∃ (a dx : Addr) (fs : List (Str × V)), x = .ref a ∧ H1 a = some (.ins C dx fs) ∧ fs.lookup m = none ∧ tk σ H1 fun zs H2 => zs.length = n ∧ sp (.ref a :: zs) H2 Q E
/-- keywords in the def's order -/
def KwIn (K : PySem.W.Frag) (fd : FuncData) (p : Str) (ks : List Str) : Prop := ∀ (s : Shared) (u : Value) (ws : List Value), K.In s.heap → ws.length = ks.length → BindsTo s fd ⟨[u], ks.zip ws⟩ ((p :: ks).zip (u :: ws))
theorem kw_in {K : PySem.W.Frag} {x qual : Str} {st : Stmt} {f : Addr} {fd : FuncData} {p : Str} {ks : List Str} (F : Fun K x qual st f fd)
    (h : ∀ (kV doc pm : Value) (an : Option Addr) (cdv ct : Value) (u : Value) (ws : List Value), ws.length = ks.length → bindArgs (PySem.W.fnOf x qual (defArgs st) (defBody st) (defScope st) Value.none kV doc pm an cdv ct) ⟨[u], ks.zip ws⟩ = pure ((p :: ks).zip (u :: ws))) : KwIn K fd p ks := by
  intro s u ws _ hl
  obtain ⟨oc, od, kV, doc, pm, an, cdv, ct, osl, rfl, _⟩ := F.ex
  exact BindsTo.of_eq (h kV doc pm an cdv ct u ws hl)
section
variable {X : Cx} {CX : CXT} {k : Nat} {f C : Addr} {fd : FuncData} {p m : Str} {ks : List Str} {sp : Sp} {E : XK} {o : Expr} {ta : TE} {tk : TA} {kws : List Keyword} {apos pos : Pos}
theorem pe_methK {pl : Sem Bool} (he : PE X o ta) (c : Cls X.K C) (hm : Meth X.K C m f) (F : FnOk X.prog X.w X.K X.mg X.base CX k f fd (p :: ks) sp) (hr : Room k X.A) (hb : KwIn X.K fd p ks) (hx : Passes CX X E) (hkw : PK X kws tk)
    (hall : (backToKw pos (keywordEach kws X.env)).all (·.1.isSome) = true := by rfl) (hks : (backToKw pos (keywordEach kws X.env)).filterMap (·.1) = ks := by rfl)
    (hpl : ((backTo pos (starEach [] X.env)).any (·.1) || (backToKw pos (keywordEach kws X.env)).any (·.1.isNone)) = false := by rfl)
    (ht : eval (.Call (.Attribute o m apos) [] kws pos) X.env = (do
      let ov ← eval o X.env
      standAt apos.atName
      let (f, first) ← holding [ov] (getMethod ov m pl)
      callWith pos f first (backTo pos (starEach [] X.env)) (backToKw pos (keywordEach kws X.env))) := by rfl) :
    PE X (.Call (.Attribute o m apos) [] kws pos) (tMethK C m ks.length sp E ta tk) := by
  refine ⟨fun pins s σ H Q I h => ?_⟩
  refine PySem.W.methodCall_KW (pl := pl) (thn (he.run pins s σ H _ I h) fun u s1 ⟨x, H1, I1, rx, a, dx, fs, ex, ea, l, q⟩ => ?_) ht
  subst ex
  obtain rfl : u = Value.ref a := rx
  refine getmeth_ok I1 ea c hm l ?_
  refine PySem.W.callWith_KW0 (first := [.ref a]) (h₀ := X.base) I.ok.mod.kin hm.kp hall ?_ hpl
  refine thn (hkw.run pos pins s1 σ H1 _ I1 q) fun ws s2 ⟨zs, H2, I2, rz, hz, q2⟩ => ⟨I2.kIn, ?_⟩
  rw [hks, List.append_nil]
  have hl : ws.length = ks.length := rz.length.symm.trans hz
  refine wpAny_call (codeAny_mono (F.run X.A X.stack s2 H2 ⟨[.ref a], ks.zip ws⟩ (.ref a :: ws) (.ref a :: zs) Q E hr I2.env0 (hb s2 (.ref a) ws I2.kIn hl) (.cons rfl rz) q2) fun r s' hq => ?_)
  cases r with
  | error e => exact hx pins σ H2 s2 e s' I2 hq
  | ok fl =>
    cases fl with
    | ret u => exact I2.after hq
    | next => exact False.elim hq
    | brk => exact False.elim hq
    | cont => exact False.elim hq
end
end L2.LqX


set_option Elab.async false
set_option linter.all false
set_option maxRecDepth 100000
set_option maxHeartbeats 4000000
/-! o != p by an own __eq__; o == p where p is a text or a list -/
namespace L2.LqX
open PySem PySem.Spec PyProof.Rows L2
section
variable {prog : Program} {w : World} {A : Around} {E : Value → Shared → Prop} {s : Shared} {K : PySem.W.Frag} {x C f : Addr} {ox : Obj} {od : Option Obj} {b tb : Value}
/-- what an own == leaves of a != -/
def NeBack (Q : Value → Shared → Prop) (v : Value) (s' : Shared) : Prop := ∃ t, v = .bool t ∧ Q (.bool (!t)) s'
theorem one_ne {Q : Value → Shared → Prop} (hu : A.in1.units < cLine) (KX : K.In s.heap) (J : PySem.W.InstAt s.heap x ox C od) (hm : PySem.W.mroIn K C (.type "object") = some true) (he : PySem.W.findIn K (.ref C) "__eq__" = some (some (.ref f))) (hf : PySem.W.isFn K (.ref f) = true)
    (h : wpAny (model prog w) A.in1 (call (.ref f) [.ref x, b]) (NeBack Q) E s) : wpAny (model prog w) A (call (.builtin "object.__ne__") [.ref x, b]) Q E s := by
  refine wpAny_call (codeAny_call_builtin PySem.F.cmp_object.ne.plain PySem.F.cmpEntry_ne (PySem.W.check_slot (i := "object.__ne__") (owner := "object") (n := "__ne__") (by decide +kernel) (by decide +kernel) (J.type.andThen (PySem.W.looks_mroIn KX hm)) (PySem.F.cmpArgs_ne _ _) ?_))
  unfold Builtin.«object.__ne__»
  refine wpAny_bind (m := slotArgs "__ne__" 1 _) (wpAny_pure ?_)
  refine wpAny_bind (m := cRoomFor _ _) (wpAny_cRoomFor hu ?_)
  refine wpAny_bind (m := callSpecialIfBound? (.ref x) (Str.ofString "__eq__") _) (PySem.W.ifBound_K KX J he hf (wpAny_mono h (fun r s' hq => ?_) fun _ _ y => y))
  obtain ⟨t, rfl, q⟩ := hq
  exact wpAny_bind (wpAny_truthy_bool (wpAny_pure q))
/-- a built-in slot, found in an own class -/
theorem bound_B {M : Model} {name : Str} {id : String} {args : List Value} {Q : Option Value → Shared → Prop} (KX : K.In s.heap) (J : PySem.W.InstAt s.heap x ox C od) (hs : PySem.W.findIn K (.ref C) name = some (some (.builtin id)))
    (hb : ∀ self, bindSpecial (.builtin id) self = pure (.builtin id, [self])) (h : wpAny M A (call (.builtin id) (.ref x :: args)) (fun v => Q (some v)) E s) : wpAny M A (callSpecialIfBound? (.ref x) name args) Q E s := by
  have last : wpAny M A (call (.builtin id) ([.ref x] ++ args) >>= fun v => pure (some v)) Q E s := wpAny_bind (wpAny_mono h (fun v s' q => wpAny_pure q) fun _ _ q => q)
  simp only [bindSpecialIfBound?, callSpecialIfBound?]
  refine wpAny_holding (wpAny_bind (wpAny_bind (wpAny_bind (J.type.here ((PySem.W.looks_findIn KX hs).here (wpAny_bind (wpAny_askSetting (wpAny_ite ?_))))))))
  split
  · exact wpAny_bind ((PySem.W.Looks.of_pure (hb _)).here (wpAny_pure (by exact last)))
  · exact wpAny_tryCatch (wpAny_bind ((PySem.W.Looks.of_pure (hb _)).here (wpAny_pure (by exact last))))
theorem ne_first {Q : Value → Shared → Prop} (hu : A.units < cLine) (KX : K.In s.heap) (J : PySem.W.InstAt s.heap x ox C od) (hb : PySem.W.Looks (model prog w) s.heap (typeOf b) tb) (hn : PySem.W.notFirst K C tb = true)
    (h : wpAny (model prog w) A (callSpecialIfBound? (.ref x) "__ne__" [b]) (fun r s' => ∃ t, r = some (.bool t) ∧ Q (.bool t) s') E s) : wpAny (model prog w) A (richCompare .NotEq (.ref x) b) Q E s := by
  have one : wpAny (model prog w) A (tryCompare (.ref x) "__ne__" b) (fun r s' => ∃ v, r = some v ∧ Q v s') E s := by
    unfold tryCompare
    refine wpAny_bind (wpAny_mono h (fun r s' ⟨t, er, q⟩ => ?_) fun _ _ e => e)
    subst er
    exact wpAny_pure ⟨_, rfl, q⟩
  unfold richCompare
  simp only [oneThing_ref]
  refine wpAny_holding (wpAny_bind (wpAny_cRoomFor hu (wpAny_bind (J.type.here (wpAny_bind (hb.here ?_))))))
  have go : ∀ {t : Sem (Option Value)} {c : Value → Sem Value} {d : Sem Value}, wpAny (model prog w) A t (fun r s' => ∃ v, r = some v ∧ Q v s') E s → wpAny (model prog w) A (t >>= fun r => match r with | some v => pure v | none => d) Q E s := fun ht =>
    wpAny_bind (wpAny_mono ht (fun r s' ⟨v, er, q⟩ => by subst er; exact wpAny_pure q) fun _ _ e => e)
  split
  · rename_i q
    have e : PySem.W.subIn K tb (.ref C) = some false := by
      rcases Bool.or_eq_true_iff.mp hn with z | z
      · rw [beq_iff_eq.mp z] at q
        simp at q
      · exact beq_iff_eq.mp z
    refine wpAny_bind ((PySem.W.looks_subIn KX e).here ?_)
    rw [if_neg Bool.false_ne_true]
    refine wpAny_bind (wpAny_mono one (fun r s' ⟨v, er, z⟩ => ?_) fun _ _ e => e)
    subst er
    exact wpAny_pure z
  · refine wpAny_bind (wpAny_pure ?_)
    rw [if_neg Bool.false_ne_true]
    refine wpAny_bind (wpAny_mono one (fun r s' ⟨v, er, z⟩ => ?_) fun _ _ e => e)
    subst er
    exact wpAny_pure z
end
section
variable {X : Cx} {CX : CXT} {k : Nat} {g C : Addr} {sp : Sp} {E : XK}
/-- o != p by the own ==, both of one class -/
def rNeO (C : Addr) (sp : Sp) (E : XK) : R2 := fun x y H Q => ∃ (a dx : Addr) (fs : List (Str × V)) (b dy : Addr) (gs : List (Str × V)), x = .ref a ∧ H a = some (.ins C dx fs) ∧ y = .ref b ∧ H b = some (.ins C dy gs) ∧ sp [x, y] H (fun v H' => ∃ t, v = .bl t ∧ Q (.bl (!t)) H') E
theorem op_neO (m : OwnM X.K C "__eq__" g) (hn : PySem.W.findIn X.K (.ref C) "__ne__" = some (some (.builtin "object.__ne__"))) (hm : PySem.W.mroIn X.K C (.type "object") = some true) (F : FnR X.prog X.w X.K X.mg X.base CX k g sp) (hr : Room (k + 1) X.A) (hx : Passes CX X E) : OpR X (compareOp .NotEq) (rNeO C sp E) := by
  intro pins s σ H x y v u Q I rx ry ⟨a, dx, fs, b, dy, gs, ex, e, ey, e2, q⟩
  subst ex ey
  obtain rfl : v = Value.ref a := rx
  obtain rfl : u = Value.ref b := ry
  obtain ⟨ox, od, J⟩ := ins_at I e
  obtain ⟨oy, oe, J2⟩ := ins_at I e2
  unfold compareOp
  refine ne_first hr.units0 I.kIn J J2.type (by unfold PySem.W.notFirst; simp) (bound_B I.kIn J hn (fun self => PySem.F.cmp_object.ne.bind self) ?_)
  refine one_ne hr.in1.units0 I.kIn J hm m.at_ m.fn (wpAny_mono (run_at (us := [.ref a, .ref b]) (vs := [.ref a, .ref b]) F hr.in1 I.env0.in1 hx I (.cons rfl (.cons rfl .nil)) q) (fun v s' hv => ?_) fun _ _ z => z)
  obtain ⟨z, H', I', rz, t, rfl, q'⟩ := hv
  obtain rfl : v = Value.bool t := rz
  exact ⟨t, rfl, _, rfl, .bl (!t), H', I', rfl, q'⟩
/-- o == p by the own ==, p a text or a list -/
def rEqOther (K : PySem.W.Frag) (C : Addr) (sp : Sp) (E : XK) : R2 := fun x y H Q => ∃ (a dx : Addr) (fs : List (Str × V)), x = .ref a ∧ H a = some (.ins C dx fs) ∧ ((∃ z, y = .str z) ∨ ∃ b zs, y = .ref b ∧ SqL K H b zs) ∧ sp [x, y] H (fun v H' => (∃ t, v = .bl t) ∧ Q v H') E
theorem op_eqOther (m : OwnM X.K C "__eq__" g) (F : FnR X.prog X.w X.K X.mg X.base CX k g sp) (hr : Room k X.A) (hx : Passes CX X E) : OpR X (compareOp .Eq) (rEqOther X.K C sp E) := by
  intro pins s σ H x y v u Q I rx ry ⟨a, dx, fs, ex, e, hy, q⟩
  subst ex
  obtain rfl : v = Value.ref a := rx
  obtain ⟨ox, od, J⟩ := ins_at I e
  obtain ⟨m0, F0⟩ := I.fr
  have run := run_at (us := [.ref a, u]) (vs := [.ref a, y]) F hr I.env0 hx I (.cons rfl (.cons ry .nil)) q
  have fin : wpAny (model X.prog X.w) X.A (call (.ref g) [.ref a, u]) (PySem.W.CmpBack (EP X pins σ Q)) X.xe s := by
    refine wpAny_mono run (fun v s' hv => ?_) fun _ _ z => z
    obtain ⟨z, H', I', rz, ⟨t, rfl⟩, q'⟩ := hv
    obtain rfl : v = Value.bool t := rz
    exact ⟨.bl t, H', I', rfl, q'⟩
  unfold compareOp
  rcases hy with ⟨z, rfl⟩ | ⟨b, zs, rfl, hq⟩
  · obtain ⟨t, rfl⟩ : ∃ t, u = .str z t := ry
    exact PySem.W.cmp_K (op := .Eq) (tb := .type "str") (hr.units0) F0 I.mod.kin J (PySem.W.Looks.of_pure rfl) (by rfl) m.at_ m.fn fin
  · obtain rfl : u = Value.ref b := ry
    obtain ⟨its, rv, p, hz⟩ := I.list hq
    obtain ⟨o, ho, hc, _⟩ := p.isList
    refine PySem.W.cmp_K (op := .Eq) (tb := .type "list") (hr.units0) F0 I.mod.kin J ?_ (by rfl) m.at_ m.fn fin
    rw [← hc]
    exact (PySem.W.Looks.ld (part := none) ho).andThen .now
end
end L2.LqX


set_option Elab.async false
set_option linter.all false
set_option maxRecDepth 100000
set_option maxHeartbeats 4000000
/-! a walk over what an own __iter__ gives: iter(a tuple) -/
namespace L2.LqX
open PySem PySem.Spec PyProof.Rows L2 ItX
/-- a tuple's iterator, at place i -/
def ItT (t it : Addr) (i : Nat) : HO := .ext fun h => h.IsTupleIter it t i
theorem itT_ok {P : Program} {w : World} {H : Hp} {h : Heap} {t it : Addr} {i : Nat} (e : h.IsTupleIter it t i) : ObjOk P w H h it (ItT t it i) := by
  refine ⟨e, ?_, fun h1 h2 q k => q.at fun o z => k o z⟩
  obtain ⟨o, q, _⟩ := e
  exact ⟨o, q⟩
section
variable {X : Cx} {pins : List (Addr × Obj)} {σ : L2.St} {H : Hp} {s : Shared}
theorem itT_get {t it : Addr} {i : Nat} (I : Inv X pins σ H s) (e : H it = some (ItT t it i)) : s.heap.IsTupleIter it t i := (I.hok it _ e).1
/-- iter(t) -/
def rIterT (K : PySem.W.Frag) (n : Nat) : List V → Hp → VK → Prop := fun xs H Q => ∃ (t : Addr) (zs : List V), xs = [.ref t] ∧ SqT K H t zs ∧ ∀ it, n ≤ it → H it = none → Q (.ref it) (upd H it (ItT t it 0))
theorem call_iterT : CallR X (.builtin "iter") (rIterT X.K X.s_0.heap.objs.size) := by
  intro pins s σ H xs us Q I r h
  obtain ⟨l, zs, rfl, hq, q⟩ := h
  obtain ⟨u, rfl, ru⟩ := vals1 r
  cases ru
  obtain ⟨its, rv, p, hz⟩ := I.tuple hq
  refine Calls.call_function_entry (by decide +kernel) (by decide +kernel) PySem.W.kdk_entry_iter (PySem.W.kdk_args_iter _) ?_
  unfold Builtin.«iter»
  refine wpAny_bind (m := someArgs "iter" 1 2 _) (wpAny_of_eq (a := [Value.ref l]) (by first | rfl | kernel_rfl!) ?_)
  show wpAny _ _ (pyIter (.ref l) >>= fun v => ret v) _ _ _
  refine wpAny_bind (wpAny_pyIter_tuple (show s.heap.IsTuple l its.toArray from p) (wpAny_pure ⟨_, rfl, ?_⟩))
  exact ⟨.ref s.heap.objs.size, _, I.laid (t' := s.toks) (fun b u e => Heap.get?_push_of_some _ e) (Nat.le_refl _) (itT_ok ⟨_, Heap.get?_push_size _ rfl, rfl, rfl⟩), rfl, q _ I.sz (I.hok.fresh (Nat.le_refl _))⟩
end
/-- a promise that knows the heap's size at the call -/
abbrev SpN := Nat → List V → Hp → VK → XK → Prop
def FnN (P : Program) (w : World) (K : PySem.W.Frag) (mg : Str → Option Value) (base : Heap) (CX : CXT) (k : Nat) (f : Addr) (sp : SpN) : Prop :=
  ∀ (A : Around) (outer : List Env) (s : Shared) (H : Hp) (us : List Value) (vs : List V) (Q : VK) (E : XK), Room k A → Env0 P w K mg base A outer s H → Vals vs us → sp s.heap.objs.size vs H Q E →
    codeAny (model P w) A (.call (.ref f) ⟨us, []⟩) (CR CX outer P w H s Q E) s
section
variable {P : Program} {w : World} {K : PySem.W.Frag} {mg : Str → Option Value} {base : Heap}
theorem fnN {CX : CXT} {k : Nat} {x qual : Str} {st : Stmt} {f : Addr} {fd : FuncData} {N ps : List Str} {sp : SpN} (D : Fun K x qual st f fd) (S : FnScope N ps (defScope st)) (bd : Binds K fd ps []) (len : ∀ n vs H Q E, sp n vs H Q E → vs.length = ps.length)
    (walk : ∀ (cdv : Value) (A : Around) (outer : List Env) (s : Shared) (H : Hp) (vs : List V) (Q : VK) (E : XK), Room k (A.deeper (envOfC qual (defScope st) s.heap.objs.size f cdv)) → sp s.heap.objs.size vs H Q E →
      ∃ t, PSs (cxOf CX P w K mg base N qual (defScope st) f cdv A outer s H E) (defBody st) t ∧ t { nx := fun _ H' => Q .non H', rt := Q } (start N vs) H) : FnN P w K mg base CX (k + 1) f sp := by
  intro A outer s H us vs Q E room env rel hs
  have ln := len _ _ _ _ _ hs
  have inK : K.In s.heap := env.mod.kin.keeps fun b o z => (env.bs b o z).1
  have bnd := bd s us inK (by rw [List.append_nil, ← rel.length]; exact ln)
  obtain ⟨oc, od, kV, doc, pm, an, cdv, ct, osl, rfl, at_, code⟩ := D.ex
  rw [List.append_nil] at bnd
  refine codeAny_call_function room.depth (inK _ _ at_) rfl S.co S.gen rfl (PySem.W.codeRec_of inK code) (bnd _ _ _ _ ?_)
  refine wpAny_newFunctionEnv_cells S.kind (fun y hy => ?_) fun env1 e1 s1 entered => ?_
  · rcases S.par y.1 (List.of_mem_zip hy).1 with z | z
    · exact .inl z
    · exact .inr ⟨z, PySem.W.cellsFrom_some _ _ _ (.inl z)⟩
  subst e1
  refine ⟨(env.mod.nolimit.keeps fun b o z => (env.bs b o z).1).keeps entered.toInCall.keep, codeAny_func ?_⟩
  obtain ⟨t, pt, ht⟩ := walk cdv A outer s H vs Q E (room.deeper _) hs
  refine wpAny_mono (pt.run [] s1 (start N vs) H _ (inv_start S room.hd env ln rel entered) ht) (fun fl s' z => ?_) fun _ _ z => z
  match fl, z with
  | .ret u, ⟨v, _, H', J, rv, q⟩ => exact ⟨v, H', J.os, J.bare, J.base, J.hok, rv, q⟩
  | .next, ⟨_, H', J, q⟩ => exact ⟨.non, H', J.os, J.bare, J.base, J.hok, rfl, q⟩
  | .brk, ⟨_, _, _, q⟩ => exact q.elim
  | .cont, ⟨_, _, _, q⟩ => exact q.elim
end
section
variable {X : Cx} {CX : CXT} {k : Nat} {g C : Addr} {sp : SpN} {E : XK} {tg e : Expr} {te : TE}
/-- for x in o: the own __iter__ gives a tuple's iterator; behind it the iterator is forgotten -/
def iOwn (K : PySem.W.Frag) (C : Addr) (sp : SpN) (E : XK) (te : TE) : TI := fun σ H R => te σ H fun x H1 => ∃ (a dx : Addr) (fs : List (Str × V)), x = .ref a ∧ H1 a = some (.ins C dx fs) ∧
  ∀ n, sp n [.ref a] H1 (fun v H2 => ∃ it t, v = .ref it ∧ n ≤ it ∧ H2 it = some (ItT t it 0) ∧ R (Itt K t) (dropH H2 it)) E
theorem pi_own (m : OwnM X.K C "__iter__" g) (F : FnN X.prog X.w X.K X.mg X.base CX k g sp) (hr : Room k X.A) (hx : Passes CX X E) (he : PE X e te) : PI X tg e (iOwn X.K C sp E te) := by
  refine ⟨fun pins s σ H R I h => ?_⟩
  refine thn (he.run pins s σ H _ I h) fun v s1 ⟨x, H1, I1, r1, a, dx, fs, ex, ea, q⟩ => ?_
  subst ex
  obtain rfl : v = Value.ref a := r1
  obtain ⟨ox, od, J⟩ := ins_at I1 ea
  obtain ⟨m0, F0⟩ := I1.fr
  refine PySem.W.owit_iter F0 I1.mod.kin J m.at_ m.fn (wpAny_call (codeAny_mono (F X.A X.stack s1 H1 [.ref a] [.ref a] _ E hr I1.env0 (.cons rfl .nil) (q _)) fun r s' hq => ?_))
  cases r with
  | error z => exact hx pins σ H1 s1 z s' I1 hq
  | ok fl =>
    cases fl with
    | ret u =>
      obtain ⟨v, H2, I2, rv, it, t, ev, hn, hi, q2⟩ := I1.after hq
      subst ev
      obtain rfl : u = Value.ref it := rv
      have st := itT_get I2 hi
      have hi' := hi
      unfold ItT at hi'
      refine wpAny_specialOf st.typeIs PySem.F.slot_tuple_iterator_next.lookup ?_
      refine ⟨it, [it], _, _, dropH H2 it, rfl, inv_drop I2 hi', turn_tuple t it, st, fun b hb => ?_, q2⟩
      have z : b = it := by simpa using hb
      rw [z]
      exact inv_fp I2 hi (Nat.le_trans I1.sz hn)
    | next => exact False.elim hq
    | brk => exact False.elim hq
    | cont => exact False.elim hq
/-- list(o) -/
def rListT (K : PySem.W.Frag) (C : Addr) (sp : SpN) (E : XK) : List V → Hp → VK → Prop := fun xs H Q => ∃ (a dx : Addr) (fs : List (Str × V)), xs = [.ref a] ∧ H a = some (.ins C dx fs) ∧
  ∀ q n, H q = none → sp n [.ref a] (upd H q (.lst [])) (fun v H2 => ∃ it t zs, v = .ref it ∧ n ≤ it ∧ H2 it = some (ItT t it 0) ∧ (∀ H3, SqT K H3 t zs) ∧ H2 a = some (.ins C dx fs) ∧ H2 q = some (.lst []) ∧ zs.length ≤ sizeLine ∧ Q (.ref q) (upd (dropH H2 it) q (.lst zs))) E
theorem tup_loop {pins : List (Addr × Obj)} {σ : L2.St} {A1 : Around} {t it q : Addr} {zs : List V} {Rs : Result → Shared → Prop} (hd : A1.in1.handled = none) (hne : q ≠ it) (hz : zs.length ≤ sizeLine) (hT : ∀ H3, SqT X.K H3 t zs) :
    ∀ (m i : Nat) (H : Hp) (s : Shared), zs.length - i = m → i ≤ zs.length → Inv X pins σ H s → H q = some (.lst (zs.take i)) → FpOk X pins H it → s.heap.IsTupleIter it t i → (∀ s', Inv X pins σ (upd H q (.lst zs)) s' → Rs (.ok (.ret .none)) s') →
      codeAny (model X.prog X.w) A1 (.builtin "list.extend.loop" ⟨[.ref q, .ref it, .none], []⟩) Rs s := by
  intro m
  induction m with
  | zero =>
    intro i H s hm hi I hq hf st fin
    obtain ⟨its, rv, p, _⟩ := I.tuple (hT H)
    obtain ⟨f0, f1, f2, f3, f4, f5⟩ := hf
    have ei : i = zs.length := by omega
    have hl := rv.length
    refine codeAny_builtin PySem.F.entry_extend_loop ?_
    rw [Around.under_plainId PySem.F.plain_extend_loop _]
    show wpAny _ A1.in1 (pyNext (.ref it) >>= fun r => _) _ _ s
    refine wpAny_bind (wpAny_pyNext_tuple_end hd st (show s.heap.IsTuple t its.toArray from p) (by simp; omega) fun h' eb => wpAny_pure (fin _ ?_))
    have J : Inv X pins σ H { s with heap := h' } := I.turned (t' := s.toks) (fun b o hb e => eb b o hb e) f0 f1 f3 f4 f5
    have eH : upd H q (.lst zs) = H := by
      funext b
      by_cases hb : b = q
      · rw [hb, upd_same, hq, ei, List.take_length]
      · rw [upd_ne hb]
    rw [eH]
    exact J
  | succ m ih =>
    intro i H s hm hi I hq hf st fin
    obtain ⟨its, rv, p, _⟩ := I.tuple (hT H)
    obtain ⟨f0, f1, f2, f3, f4, f5⟩ := id hf
    have hlt : i < zs.length := by omega
    have hx : zs[i]? = some zs[i] := List.getElem?_eq_getElem hlt
    obtain ⟨u, hu, ru⟩ := rv.get hx
    refine codeAny_builtin PySem.F.entry_extend_loop ?_
    rw [Around.under_plainId PySem.F.plain_extend_loop _]
    show wpAny _ A1.in1 (pyNext (.ref it) >>= fun r => _) _ _ s
    refine wpAny_bind (wpAny_pyNext_tuple_item st (show s.heap.IsTuple t its.toArray from p) (x := u) (by simpa using hu) fun h' st' sb => ?_)
    have J : Inv X pins σ H { s with heap := h' } := I.turned (t' := s.toks) (fun b o hb e => (sb.2 b hb).trans e) f0 f1 f3 f4 f5
    show wpAny _ A1.in1 (updateSeq q (·.push u) >>= fun _ => _) _ _ _
    obtain ⟨z, its2, k2, r2, hl2, e2⟩ := J.lstM hq
    have hlen : (zs.take i).length = i := by rw [List.length_take]; omega
    have stp : zs.take (i + 1) = zs.take i ++ [zs[i]] := by rw [List.take_succ, hx]; rfl
    refine wpAny_bind (wpAny_updateSeq e2 rfl (wpAny_pure ⟨plainId_quiet PySem.F.plain_extend_loop _, ?_⟩) (by rw [List.size_toArray]; omega) (by show (its2.toArray.push u).size ≤ sizeLine + 1; rw [Array.size_push, List.size_toArray]; omega))
    have J2 := J.lset (f := (·.push u)) (its' := its2 ++ [u]) (ys := zs.take (i + 1)) (t' := s.toks) hq e2 (by simp) (by rw [stp]; exact r2.append (.cons ru .nil)) (by rw [List.length_take]; omega)
    refine ih (i + 1) _ _ (by omega) hlt J2 upd_same ⟨by rw [upd_ne (Ne.symm hne)]; exact f0, f1, f2, f3, f4, f5⟩ (st'.at fun o e => ?_) fun s' I' => fin s' (by rw [upd_upd] at I'; exact I')
    exact (Heap.get?_update_other _ _ hne).trans e
end
end L2.LqX


set_option Elab.async false
set_option linter.all false
set_option maxRecDepth 100000
set_option maxHeartbeats 4000000
/-! list(o), the own __iter__ gives a tuple's iterator -/
namespace L2.LqX
open PySem PySem.Spec PyProof.Rows L2 ItX
/-- a class that tells nothing of a length -/
structure NoLen (K : PySem.W.Frag) (C : Addr) : Prop where
  len : PySem.W.findIn K (.ref C) "__len__" = some none
  hint : PySem.W.findIn K (.ref C) "__length_hint__" = some none
abbrev eList : Obj := { cls := .type "list", data := .seq #[] }
section
variable {X : Cx} {CX : CXT} {k : Nat} {g C : Addr} {sp : SpN} {E : XK}
theorem no_hint {M : Model} {A : Around} {E : Value → Shared → Prop} {s : Shared} {Q : Bool → Shared → Prop} {K : PySem.W.Frag} {a : Addr} {ox : Obj} {od : Option Obj} (N : NoLen K C) (inK : K.In s.heap) (J : PySem.W.InstAt s.heap a ox C od) (q : Q true s) :
    wpAny M A (Builtin.List.listLengthHint (.ref a)) Q E s := by
  unfold Builtin.List.listLengthHint
  refine wpAny_bind (wpAny_bind (J.type.here ((PySem.W.looks_findIn inK N.len).here ?_)))
  refine PySem.W.KFB.if_not rfl (PySem.W.KFB.if_not rfl ?_)
  exact wpAny_bind (wpAny_bind (J.type.here ((PySem.W.looks_findIn inK N.hint).here (wpAny_pure q))))
theorem extend_own {pins : List (Addr × Obj)} {σ : L2.St} {H : Hp} {s : Shared} {A1 : Around} {Rs : Result → Shared → Prop} {a dx q : Addr} {fs : List (Str × V)} {Q : VK} (N : NoLen X.K C) (m : OwnM X.K C "__iter__" g) (F : FnN X.prog X.w X.K X.mg X.base CX k g sp) (hx : Passes CX X E) (room : Room k A1.in1) (frm : A1.in1.frames = X.A.frames)
    (hd : A1.in1.handled = none) (I : Inv X pins σ H s) (ha : H a = some (.ins C dx fs)) (hq : H q = some (.lst []))
    (hs : sp s.heap.objs.size [.ref a] H (fun v H2 => ∃ it t zs, v = .ref it ∧ s.heap.objs.size ≤ it ∧ H2 it = some (ItT t it 0) ∧ (∀ H3, SqT X.K H3 t zs) ∧ H2 a = some (.ins C dx fs) ∧ H2 q = some (.lst []) ∧ zs.length ≤ sizeLine ∧ Q (.ref q) (upd (dropH H2 it) q (.lst zs))) E)
    (fin : ∀ H' s', Inv X pins σ H' s' → Q (.ref q) H' → Rs (.ok (.ret .none)) s') (err : ∀ e s', X.xe e s' → Rs (.error e) s') :
    wpAny (model X.prog X.w) A1.in1 (Builtin.List.listExtendWith (.ref q) (.ref a) .none)
      (fun w s' => match w with | .done f => Rs (.ok f) s' | .again c' => c'.quiet = true ∧ codeAny (model X.prog X.w) A1 c' Rs s') (fun e s' => Rs (.error e) s') s := by
  have hne : q ≠ a := ne_of hq ha (fun z => nomatch z)
  obtain ⟨ox, od, J⟩ := ins_at I ha
  obtain ⟨m0, F0⟩ := I.fr
  unfold Builtin.List.listExtendWith
  refine wpAny_bind (J.type.here ?_)
  simp only [show Builtin.List.listSameRef (.ref q) (.ref a) = false by simp [Builtin.List.listSameRef, hne], show (Value.ref C == Value.type "list") = false from rfl, show (Value.ref C == Value.type "tuple") = false from rfl, Bool.or_false, Bool.false_eq_true, if_false]
  have env : Env0 X.prog X.w X.K X.mg X.base A1.in1 X.stack s H := by
    have z := I.env0
    exact ⟨frm.trans z.frames, z.mod, z.bs, z.bsz, z.funs, z.frf, z.hok, z.bare⟩
  refine wpAny_bind (PySem.W.owit_iter F0 I.ok.mod.kin J m.at_ m.fn (wpAny_call (codeAny_mono (F A1.in1 X.stack s H [.ref a] [.ref a] _ E room env (.cons rfl .nil) hs) fun r s1 hr => ?_)))
  cases r with
  | error z => exact err z s1 (hx pins σ H s z s1 I hr)
  | ok fl =>
    cases fl with
    | next => exact False.elim hr
    | brk => exact False.elim hr
    | cont => exact False.elim hr
    | ret u =>
      obtain ⟨v, H2, os, bare, un, hok, rv, it, t, zs, ev, hn, hi, hT, ha2, hq2, hz, hQ⟩ := hr
      obtain ⟨hh, gg, dd, tk, os'⟩ := s1
      obtain rfl : os' = s.os := os
      have I2 := I.call (h' := hh) (g' := gg) (d' := dd) (t' := tk) (ch := []) un hok bare (fun b z => absurd z (by simp))
      subst ev
      obtain rfl : u = Value.ref it := rv
      have st := itT_get I2 hi
      have hi' := hi
      unfold ItT at hi'
      have I3 := inv_drop I2 hi'
      have fp := inv_fp I2 hi (Nat.le_trans I.sz hn)
      have nqi : q ≠ it := fun z => by
        rw [z, hi] at hq2
        cases hq2
      have nai : a ≠ it := fun z => by
        rw [z, hi] at ha2
        cases ha2
      have hq3 : dropH H2 it q = some (.lst []) := by
        rw [dropH_ne nqi]
        exact hq2
      obtain ⟨oy, oe, J3⟩ := ins_at I3 (show dropH H2 it a = some (.ins C dx fs) by rw [dropH_ne nai]; exact ha2)
      refine wpAny_specialOf st.typeIs PySem.F.slot_tuple_iterator_next.lookup ?_
      refine wpAny_bind (wpAny_holding (no_hint N I3.kIn J3 ?_))
      have go : ∀ s', Inv X pins σ (dropH H2 it) s' → s'.heap.IsTupleIter it t 0 → codeAny (model X.prog X.w) A1 (.builtin "list.extend.loop" ⟨[.ref q, .ref it, .none], []⟩) Rs s' := fun s' J st' =>
        tup_loop hd nqi hz hT zs.length 0 (dropH H2 it) s' rfl (Nat.zero_le _) J (by rw [hq3]; rfl) fp st' fun s'' J' => fin _ s'' J' hQ
      refine wpAny_ite_split (fun _ => ?_) (fun _ => wpAny_pure ⟨plainId_quiet PySem.F.plain_extend_loop _, go _ I3 st⟩)
      refine wpAny_bind (wpAny_rule (wpAny_bind ?_))
      show wpAny _ _ (updateSeq q (·.push .none) >>= fun (_ : Unit) => updateSeq q (·.pop)) _ _ _
      obtain ⟨z4, its4, k4, r4, hl4, e4⟩ := I3.lstM hq3
      cases r4
      refine wpAny_bind (wpAny_updateSeq e4 rfl ?_)
      have I4 := I3.lset (f := (·.push Value.none)) (its' := [Value.none]) (ys := [.non]) (t' := tk) hq3 e4 (by simp) (.cons rfl .nil) (by show 1 ≤ sizeLine; decide)
      obtain ⟨z5, its5, k5, r5, hl5, e5⟩ := I4.lstM upd_same
      obtain ⟨u5, rfl, ru5⟩ := r5.one
      refine wpAny_updateSeq e5 rfl (wpAny_pure ⟨plainId_quiet PySem.F.plain_extend_loop _, ?_⟩) (by show 1 ≤ sizeLine; decide) (by show 0 ≤ sizeLine + 1; exact Nat.zero_le _)
      have I5 := I4.lset (f := (·.pop)) (its := [u5]) (its' := []) (ys := []) (t' := tk) upd_same e5 (by rfl) .nil (Nat.zero_le _)
      rw [upd_upd] at I5
      have same : upd (dropH H2 it) q (.lst []) = dropH H2 it := by
        funext b
        by_cases hb : b = q
        · rw [hb, upd_same, hq3]
        · rw [upd_ne hb]
      rw [same] at I5
      exact go _ I5 (st.at fun o e => (Heap.get?_update_other _ _ nqi).trans ((Heap.get?_update_other _ _ nqi).trans e))
theorem call_listT (N : NoLen X.K C) (m : OwnM X.K C "__iter__" g) (F : FnN X.prog X.w X.K X.mg X.base CX k g sp) (hx : Passes CX X E) (hc : X.calm = true) (hr : Room (k + 2) X.A) : CallR X (.type "list") (rListT X.K C sp E) := by
  intro pins s σ H xs us Q I rv ⟨a, dx, fs, ex, ha, h⟩
  subst ex
  obtain ⟨u, rfl, ru⟩ := rv.one
  cases ru
  have new : H s.heap.objs.size = none := I.hok.fresh (Nat.le_refl _)
  refine callType_codes (Q₁ := fun o s1 => o = .ref s.heap.objs.size ∧ s1 = { s with heap := s.heap.push eList }) PySem.F.called_list (PySem.F.typeCall_list_1 _) PySem.F.entry_list_init (code_list_new _ ⟨rfl, rfl⟩) fun o s1 ⟨eo, es⟩ => ?_
  subst eo es
  have at_ : (s.heap.push eList).get? s.heap.objs.size = some eList := Heap.get?_push_size _ rfl
  have I1 : Inv X pins σ (upd H s.heap.objs.size (.lst [])) { s with heap := s.heap.push eList } := I.lnew (its := []) (t' := s.toks) .nil (Nat.zero_le _)
  refine ⟨⟨_, at_, rfl⟩, PySem.F.args_list_init_2 _ _, ?_⟩
  show wpAny _ _ (Builtin.List.listItems (.ref s.heap.objs.size) >>= fun old => Builtin.List.listUpdate (.ref s.heap.objs.size) (fun _ => #[]) >>= fun _ => letGo old.toList.reverse >>= fun _ => Builtin.List.listExtendWith (.ref s.heap.objs.size) (.ref a) .none) _ _ _
  refine wpAny_bind ?_
  unfold Builtin.List.listItems
  refine wpAny_bind (wpAny_seqItems at_ rfl (wpAny_pure ?_))
  refine wpAny_bind ?_
  show wpAny _ _ (updateSeq s.heap.objs.size (fun _ => #[])) _ _ _
  refine wpAny_updateSeq at_ rfl ?_
  have I2 := I1.lset (f := fun _ => #[]) (its := []) (its' := []) (ys := []) (t' := s.toks) upd_same at_ rfl .nil (Nat.zero_le _)
  rw [upd_upd] at I2
  refine wpAny_bind (wpAny_letGo ?_)
  exact extend_own (A1 := X.A.in1) (Rs := wants (fun r s2 => r = .none ∧ EP X pins σ Q (.ref s.heap.objs.size) s2) X.xe) N m F hx hr.in1.in1 rfl (I.ok.hd hc) I2 (by rw [upd_ne (ne_of_none ha new)]; exact ha) upd_same (h _ _ new)
    (fun H' s' J q => ⟨rfl, .ref s.heap.objs.size, H', J, rfl, q⟩) fun e s' z => z
end
end L2.LqX


set_option Elab.async false
set_option linter.all false
set_option maxRecDepth 100000
set_option maxHeartbeats 4000000
/-! C.m() and C.m(k = v) of a classmethod -/
namespace L2.LqX
open PySem PySem.Spec PyProof.Rows L2 ClX
section
variable {X : Cx} {CX : CXT} {k : Nat} {C p g : Addr} {mc : Value} {m : Str} {sp : Sp} {E : XK} {o : Expr} {ta : TE} {apos pos : Pos} {pl : Sem Bool}
/-- C.m() -/
def tCM0 (C : Addr) (sp : Sp) (E : XK) (ta : TE) : TE := fun σ H Q => ta σ H fun x H1 => x = .ref C ∧ sp [.ref C] H1 Q E
theorem pe_cmeth0 (he : PE X o ta) (r : CRead X.K C mc) (c : CMet X.K C mc m p g) (F : FnR X.prog X.w X.K X.mg X.base CX k g sp) (hr : Room k X.A) (hx : Passes CX X E)
    (ht : eval (.Call (.Attribute o m apos) [] [] pos) X.env = (do
      let ov ← eval o X.env
      standAt apos.atName
      let (f, first) ← holding [ov] (getMethod ov m pl)
      callWith pos f first (backTo pos (starEach [] X.env)) (backToKw pos (keywordEach [] X.env))) := by rfl) :
    PE X (.Call (.Attribute o m apos) [] [] pos) (tCM0 C sp E ta) := by
  refine ⟨fun pins s σ H Q I h => ?_⟩
  refine PySem.W.methodCall_KW (pl := pl) (thn (he.run pins s σ H _ I h) fun u s1 ⟨x, H1, I1, rx, ex, q⟩ => ?_) ht
  subst ex
  obtain rfl : u = Value.ref C := rx
  refine getmethcm_ok I1 r c fun s2 I2 => ?_
  exact PySem.W.callWith_M0 (first := []) ⟨pin_at I2, I2.kIn⟩ c.fi (run_cm (us := []) (vs := []) F hr hx I2 .nil q)
/-- C.m(k = v, ..) -/
def tCMK (C : Addr) (n : Nat) (sp : Sp) (E : XK) (ta : TE) (tk : TA) : TE := fun σ H Q => ta σ H fun x H1 => x = .ref C ∧ tk σ H1 fun zs H2 => zs.length = n ∧ sp (.ref C :: zs) H2 Q E
theorem pe_cmethK {fd : FuncData} {a : Str} {ks : List Str} {kws : List Keyword} {tk : TA} (he : PE X o ta) (r : CRead X.K C mc) (c : CMet X.K C mc m p g) (F : FnOk X.prog X.w X.K X.mg X.base CX k g fd (a :: ks) sp) (hr : Room k X.A) (hb : KwIn X.K fd a ks) (hx : Passes CX X E) (hkw : PK X kws tk)
    (hall : (backToKw pos (keywordEach kws X.env)).all (·.1.isSome) = true := by rfl) (hks : (backToKw pos (keywordEach kws X.env)).filterMap (·.1) = ks := by rfl)
    (hpl : ((backTo pos (starEach [] X.env)).any (·.1) || (backToKw pos (keywordEach kws X.env)).any (·.1.isNone)) = false := by rfl)
    (ht : eval (.Call (.Attribute o m apos) [] kws pos) X.env = (do
      let ov ← eval o X.env
      standAt apos.atName
      let (f, first) ← holding [ov] (getMethod ov m pl)
      callWith pos f first (backTo pos (starEach [] X.env)) (backToKw pos (keywordEach kws X.env))) := by rfl) :
    PE X (.Call (.Attribute o m apos) [] kws pos) (tCMK C ks.length sp E ta tk) := by
  refine ⟨fun pins s σ H Q I h => ?_⟩
  refine PySem.W.methodCall_KW (pl := pl) (thn (he.run pins s σ H _ I h) fun u s1 ⟨x, H1, I1, rx, ex, q⟩ => ?_) ht
  subst ex
  obtain rfl : u = Value.ref C := rx
  refine getmethcm_ok I1 r c fun s2 I2 => ?_
  refine PySem.W.callWith_of (P := PySem.W.MethP X.K _ g (.ref C)) hpl (PySem.W.keeps_M c.fi) (evalArgs_kw2_nil hall ?_)
  refine thn (hkw.run pos _ s2 σ H1 _ I2 q) fun ws s3 ⟨zs, H2, I3, rz, hz, q2⟩ => ⟨⟨pin_at I3, I3.kIn⟩, ?_⟩
  rw [hks]
  have hl : ws.length = ks.length := rz.length.symm.trans hz
  refine thn (Q := EP X ((s1.heap.objs.size, PySem.W.methodObj (.ref g) (.ref C)) :: pins) σ Q) (wpAny_call (PySem.W.method_call (pin_at I3) (codeAny_mono (F.run X.A X.stack s3 H2 ⟨[.ref C], ks.zip ws⟩ (.ref C :: ws) (.ref C :: zs) Q E hr I3.env0 (hb s3 (.ref C) ws I3.kIn hl) (.cons rfl rz) q2) fun r s' hq => ?_))) fun _ _ y => unpinE y
  cases r with
  | error e => exact hx _ σ H2 s3 e s' I3 hq
  | ok fl =>
    cases fl with
    | ret u => exact I3.after hq
    | next => exact False.elim hq
    | brk => exact False.elim hq
    | cont => exact False.elim hq
end
end L2.LqX


set_option Elab.async false
set_option linter.all false
set_option maxRecDepth 100000
set_option maxHeartbeats 4000000
/-! y = {k: v for x in xs} -/
namespace L2.LqX
open PySem PySem.Spec PyProof.Rows L2
abbrev Blks (X : Cx) (scope : Scope) (R : Cx → Prop) : Prop := ∀ (s : Shared) (H : Hp) (C : Addr) (cl : List (Str × Addr)) (fp : List Addr), R (X.blk s H scope (compEnvC scope cl C X.env) fp)
theorem ps_setDc {X : Cx} {i : Nat} {y : Str} {py : Pos} {kx vx tg iter : Expr} {ifs : List Expr} {scope : Scope} {own : List (Str × Nat)} {pos spos : Pos} {wi : TI} {g : TG} {tt : TT} {tk tv : TE} (hc : X.calm = true) (hN : X.N.Nodup) (hy : X.N[i]? = some y) (hyl : X.env.scope.names.lookup y = some .local)
    (hsw : swapsWith (.DictComp kx vx [⟨tg, iter, ifs, 0⟩] scope pos) (some (.Name y py)) spos.line X.env = pure true) (hi : PI X tg iter wi) (ok : BlkOk X.N X.env.scope scope own)
    (hg : Blks X scope fun Z => PG Z tg g) (ht : Blks X scope fun Z => PTs Z ifs tt) (hk : Blks X scope fun Z => PE Z kx tk) (he : Blks X scope fun Z => PE Z vx tv) (hs : ∀ x, foldedSetIterable iter X.env x = pure x := by intro _; rfl) :
    PS X (.Assign [.Name y py] (.DictComp kx vx [⟨tg, iter, ifs, 0⟩] scope pos) spos) (tAsg (tDc wi g tt tk tv (own.map (·.2))) (gName i)) := by
  refine ⟨fun pins s σ H D I h => ?_⟩
  rw [exec_Assign_Name_used _ _ _ _ hsw]
  refine wpAny_bind (wpAny_standAt (wpAny_bind ?_))
  have h0 : tDc wi g tt tk tv (own.map (·.2)) σ H (fun x H1 => gName i x σ H1 D.nx) := h
  show wpAny _ X.A (comprehension (.DictComp kx vx [⟨tg, iter, ifs, 0⟩] scope pos) scope X.env (firstIterPos [⟨tg, iter, ifs, 0⟩] pos) newDict false (eval iter X.env) (some (assign (.Name y py) X.env)) >>= fun _ => pure PUnit.unit) _ _ s
  refine wpAny_bind (thn (dc_core (Qf := fun _ s' => SP X pins D .next s') hc hN I hi ok hg ht hk he hs h0 fun L C s' m H' I' q hn f => ?_) fun _ s' hq => wpAny_pure (wpAny_pure hq))
  show wpAny _ _ (assign (.Name y py) X.env (.ref L)) _ _ _
  refine wpAny_assign_Name (store_ok2 (v := V.ref L) I' hN hy (.inl hyl) rfl (fun s2 I2 ⟨a, sb, ha⟩ => ?_) (.inr hyl))
  obtain ⟨f0, f1, f2, f3, f4, f5⟩ := f
  have off : C ≠ a := by
    rcases ha with z | z
    · rw [z]
      exact f1
    · exact fun e => f4 y a z e.symm
  exact ⟨m, hn.sameBut sb off, fun h3 sb3 => ⟨_, H', I2.turned (t' := s2.toks) (fun b o hb e => (sb3.2 b hb).trans e) f0 f1 f3 f4 f5, q⟩⟩
theorem sw_dict {kx vx : Expr} {gs : List Comprehension} {scope : Scope} {pos py : Pos} {y : Str} {l : Nat} {env : Env} (hk : env.scope.kind = .function) (hy : env.scope.names.lookup y = some .local) (hl : (py.line == pos.line) = true)
    (ha : (scope.names.any fun (n, k) => n == y && (k == .local || k == .cell)) = false) : swapsWith (.DictComp kx vx gs scope pos) (some (.Name y py)) l env = pure true := by
  have e1 : env.kindOf y = some .local := hy
  have e2 : env.blockKind = .function := by
    unfold Env.blockKind
    rw [hk]
    rfl
  unfold swapsWith
  simp only [e2, e1, ha, Expr.pos, hl]
  rfl
end L2.LqX


set_option Elab.async false
set_option linter.all false
set_option maxRecDepth 100000
set_option maxHeartbeats 4000000
/-! C.m(e, ..) of a classmethod, and C(..), what leaves wished for at the slots -/
namespace L2.LqX
open PySem PySem.Spec PyProof.Rows L2 ClX
section
variable {X : Cx} {CX : CXT} {k : Nat} {C p g : Addr} {mc : Value} {m : Str} {sp : Sp} {E : L2.St → XK} {o e : Expr} {es : List Expr} {ta : TE} {t : TA} {apos pos : Pos} {pl : Sem Bool}
def tCMAt (C : Addr) (sp : Sp) (E : L2.St → XK) (ta : TE) (t : TA) : TE := fun σ H Q => ta σ H fun x H1 => x = .ref C ∧ t σ H1 fun vs H2 => sp (.ref C :: vs) H2 Q (E σ)
theorem pe_cmethAt (he : PE X o ta) (r : CRead X.K C mc) (c : CMet X.K C mc m p g) (F : FnR X.prog X.w X.K X.mg X.base CX k g sp) (hr : Room k X.A) (hx : ∀ σ, PassesAt CX X σ (E σ)) (ha : PA X (e :: es) t)
    (hst : starEach (e :: es) X.env = (false, eval e X.env) :: starEach es X.env := by rfl) (hpl : (backTo pos (starEach es X.env)).any (·.1) = false := by rfl)
    (ht : eval (.Call (.Attribute o m apos) (e :: es) [] pos) X.env = (do
      let ov ← eval o X.env
      standAt apos.atName
      let (f, first) ← holding [ov] (getMethod ov m pl)
      callWith pos f first (backTo pos (starEach (e :: es) X.env)) (backToKw pos (keywordEach [] X.env))) := by rfl) :
    PE X (.Call (.Attribute o m apos) (e :: es) [] pos) (tCMAt C sp E ta t) := by
  refine ⟨fun pins s σ H Q I h => ?_⟩
  refine PySem.W.methodCall_KW (pl := pl) (thn (he.run pins s σ H _ I h) fun u s1 ⟨x, H1, I1, rx, ex, q⟩ => ?_) ht
  subst ex
  obtain rfl : u = Value.ref C := rx
  refine getmethcm_ok I1 r c fun s2 I2 => ?_
  refine callwith_cm I2 (base_none I1 (Nat.le_refl _)) c.fi (thn (ha.run pos _ s2 σ H1 _ I2 q) fun us s3 ⟨vs, H2, I3, rv, q2⟩ => ⟨⟨pin_at I3, I3.kIn⟩, ?_⟩) hst hpl
  refine thn (Q := EP X ((s1.heap.objs.size, PySem.W.methodObj (.ref g) (.ref C)) :: pins) σ Q) (wpAny_call (PySem.W.method_call (pin_at I3) (codeAny_mono (F X.A X.stack s3 H2 (.ref C :: us) (.ref C :: vs) Q (E σ) hr I3.env0 (.cons rfl rv) q2) fun r s' hq => ?_))) fun _ _ y => unpinE y
  cases r with
  | error z => exact hx σ _ H2 s3 z s' I3 hq
  | ok fl =>
    cases fl with
    | ret u => exact I3.after hq
    | next => exact False.elim hq
    | brk => exact False.elim hq
    | cont => exact False.elim hq
end
end L2.LqX


set_option Elab.async false
set_option linter.all false
set_option maxRecDepth 100000
set_option maxHeartbeats 4000000
/-! s[::k] of a text: signs of it, not more of them -/
namespace L2.LqX
open PySem PySem.Spec PyProof.Rows L2
theorem sliceBy_mem {z : Str} {l u : Option (Int × Tok)} {st : Int × Tok} : ∀ c ∈ TL.tl (Txt.sliceBy z l u st), c ∈ TL.tl z := by
  intro c hc
  unfold Txt.sliceBy at hc
  split at hc
  · exact hc
  · have h1 : c ∈ (PySem.slicePicked z l u (some st)).filterMap (z.cps[·]?) := hc
    obtain ⟨i, _, hi⟩ := List.mem_filterMap.mp h1
    exact Array.mem_toList_iff.mpr (Array.mem_of_getElem? hi)
section
variable {X : Cx} {e st : Expr} {te ts : TE} {p2 pos : Pos}
def tStep (te ts : TE) : TE := fun σ H Q => te σ H fun x H1 => ts σ H1 fun y H2 => ∃ (z : Str) (k : Int), x = .str z ∧ y = .int k ∧ k ≠ 0 ∧ z.length ≤ sizeLine ∧ ∀ z' : Str, z'.length ≤ z.length → (∀ c ∈ TL.tl z', c ∈ TL.tl z) → Q (.str z') H2
theorem pe_step (he : PE X e te) (hs : PE X st ts) : PE X (.Subscript e (.Slice none none (some st) p2) pos) (tStep te ts) := by
  refine ⟨fun pins s σ H Q I h => ?_⟩
  refine Subscript_ (thn (he.run pins s σ H _ I h) fun v s1 ⟨x, H1, I1, r1, q1⟩ => ?_)
  refine wpAny_Slice (thn (po_none.run pins s1 σ H1 (fun o H' => o = none ∧ H' = H1) I1 ⟨rfl, rfl⟩) fun vl s2 ⟨o2, H2, I2, pl, eo2, eH2⟩ => thn (po_none.run pins s2 σ H2 (fun o H' => o = none ∧ H' = H2) I2 ⟨rfl, rfl⟩) fun vu s3 ⟨o3, H3, I3, pu, eo3, eH3⟩ => ?_)
  subst eo2 eH2 eo3 eH3
  cases pl
  cases pu
  rw [evalPart_some]
  refine thn (hs.run pins s3 σ _ _ I3 q1) fun vs s4 ⟨y, H4, I4, r4, z, k, ex, ey, hk, hz, q⟩ => ?_
  subst ex ey
  obtain ⟨t, rfl⟩ := r1
  obtain ⟨uk, rfl⟩ := r4
  have hk' : (k == 0) = false := beq_eq_false_iff_ne.mpr hk
  have le := Txt.sliceBy_le z none none (k, uk) hk
  have I5 : Inv X pins σ H4 { s4 with heap := s4.heap.push { cls := .type "slice", data := .fields #[.none, .none, .int k uk] } } := I4.kept (t' := s4.toks) fun b ob q => Heap.get?_push_of_some _ q
  show wpAny (model X.prog X.w) X.A (subscriptTail e (.Slice none none (some st) p2) (.str z t) (.ref s4.heap.objs.size)) (EP X pins σ Q) X.xe { s4 with heap := s4.heap.push { cls := .type "slice", data := .fields #[.none, .none, .int k uk] } }
  refine tail_any (ops := [.ref s4.heap.objs.size, .str z t]) (typeIs_str _ _ _) F.slot_str_getitem.lookup ?_ (by with_unfolding_all rfl)
  refine wpAny_getItem_str_slice (l := none) (u := none) (st := some (k, uk)) ⟨_, Heap.get?_push_size _ rfl, rfl, rfl⟩ hk' (post_val_or_str ⟨Nat.le_trans le hz, fun t' c => ?_⟩)
  exact ⟨.str (Txt.sliceBy z none none (k, uk)), H4, I5.kept (t' := c) fun _ _ z => z, ⟨t', rfl⟩, q _ le sliceBy_mem⟩
end
end L2.LqX


set_option Elab.async false
set_option linter.all false
set_option maxRecDepth 100000
set_option maxHeartbeats 8000000
namespace L2.LqX
open PySem PySem.Spec PyProof.Rows L2
/-! len(set(xs)) of a list of any texts -/
/-- how many are told: as many as there are exactly if none is there twice -/
def Cnt (xs : List Str) (n : Nat) : Prop := n ≤ xs.length ∧ (n = xs.length ↔ xs.Nodup)
def InTx (xs : List Str) : Str → Bool := fun z => xs.any fun y => y == z
theorem inTx_snoc (xs : List Str) (x z : Str) : InTx (xs ++ [x]) z = (InTx xs z || decide (z = x)) := by
  unfold InTx
  rw [List.any_append]
  by_cases e : z = x
  · subst e; simp
  · have hb : (x == z) = false := beq_eq_false_iff_ne.mpr fun q => e q.symm
    simp [hb, e]
theorem cnt_snoc {xs : List Str} {n : Nat} (c : Cnt xs n) (x : Str) : Cnt (xs ++ [x]) (if InTx xs x = true then n else n + 1) := by
  obtain ⟨le, iff⟩ := c
  have mem : InTx xs x = true ↔ x ∈ xs := by
    unfold InTx
    rw [List.any_eq_true]
    constructor
    · rintro ⟨y, hy, e⟩
      rw [← eq_of_beq e]; exact hy
    · intro h; exact ⟨x, h, beq_self_eq_true x⟩
  have nd : (xs ++ [x]).Nodup ↔ xs.Nodup ∧ x ∉ xs := by
    rw [List.nodup_append]
    constructor
    · rintro ⟨a, -, b⟩
      exact ⟨a, fun q => b x q x (List.mem_singleton.mpr rfl) rfl⟩
    · rintro ⟨a, b⟩
      refine ⟨a, by simp, fun y hy z hz => ?_⟩
      rw [List.mem_singleton.mp hz]
      intro e; rw [e] at hy; exact b hy
  refine ⟨?_, ?_⟩
  · rw [List.length_append, List.length_singleton]; split <;> omega
  · rw [List.length_append, List.length_singleton, nd]
    by_cases hx : InTx xs x = true
    · rw [if_pos hx]
      constructor
      · intro e; omega
      · rintro ⟨-, b⟩; exact absurd (mem.mp hx) b
    · rw [if_neg hx]
      constructor
      · intro e
        exact ⟨iff.mp (by omega), fun q => hx (mem.mpr q)⟩
      · rintro ⟨a, -⟩
        rw [iff.mpr a]
section
variable {prog : Program} {w : World} {A : Around} {R : Result → Shared → Prop} {I : Addr} {fp wr : List Addr} {G : Array GenState → Array GenState → Prop} {m : Nat} {P : Nat → Value → Prop} {St : Nat → Shared → Prop}
theorem setKeeps {Kd : KeyKind prog w Str} {h h2 : Heap} {d : Addr} {S : Str → Bool} {c : Nat} (q : h.SetOf Kd d S c) (k : ∀ o, h.get? d = some o → h2.get? d = some o) : h2.SetOf Kd d S c := by
  obtain ⟨o, es, ep, tb, ho, more⟩ := q
  exact ⟨o, es, ep, tb, k o ho, more⟩
theorem loopTx (W : WalksS prog w A.in1 I fp wr G m P St) (D : Addr) (out : D ∉ fp) (xs : List Str) (few : xs.length = m) (room : m + 1 < scanBound)
    (tells : ∀ j v, P j v → ∃ t, v = .str (xs.getD j Str.empty) t) :
    ∀ (left j : Nat) (s : Shared) (c : Nat), m - j = left → j ≤ m → St j s → Cnt (xs.take j) c →
      s.heap.SetOf (PySem.strKind prog w) D (InTx (xs.take j)) c →
      (∀ s2 c2, Moved (D :: wr) G s s2 → Cnt xs c2 → s2.heap.SetOf (PySem.strKind prog w) D (InTx xs) c2 → R (.ok (.ret .none)) s2) →
      codeAny (model prog w) A (.builtin "set.update.loop" ⟨[.ref D, .ref I], []⟩) R s := by
  have outw : D ∉ wr := fun q => out (W.sub _ q)
  have more : ∀ d ∈ wr, d ∈ D :: wr := fun d hd => List.mem_cons_of_mem _ hd
  intro left
  induction left with
  | zero =>
    intro j s c hl hj at0 hc hS fin
    have e : j = m := by omega
    subst e
    refine codeAny_builtin PyProof.Rows.F.entry_set_update_loop ?_
    rw [Around.under_plainId PyProof.Rows.F.plain_set_update_loop _]
    refine wpAny_bind (m := pyNext (.ref I)) (W.done s _ _ at0 fun s2 mv => ?_)
    rw [← few, List.take_length] at hc hS
    exact wpAny_pure (fin s2 c (mv.mono more) hc (setKeeps hS fun o q => mv.heap D o outw q))
  | succ left ih =>
    intro j s c hl hj at0 hc hS fin
    have lt : j < m := by omega
    refine codeAny_builtin PyProof.Rows.F.entry_set_update_loop ?_
    rw [Around.under_plainId PyProof.Rows.F.plain_set_update_loop _]
    refine wpAny_bind (m := pyNext (.ref I)) (W.item j s _ _ lt at0 fun v s2 hv at1 mv => ?_)
    obtain ⟨t, rfl⟩ := tells j v hv
    have hS2 := setKeeps (h2 := s2.heap) hS fun o q => mv.heap D o outw q
    have ex : xs.take (j + 1) = xs.take j ++ [xs.getD j Str.empty] := by
      have hjl : j < xs.length := by omega
      rw [List.take_add_one, List.getElem?_eq_getElem hjl, List.getD_eq_getElem?_getD, List.getElem?_eq_getElem hjl] <;> rfl
    refine wpAny_bind (m := holding _ (setAdd D _)) (wpAny_holding (wpAny_holding ?_))
    refine wpAny_bind ((PySem.strKind prog w).pyHash (k := xs.getD j Str.empty) (strKind_is _ _ _ _) ?_)
    have hcl : c ≤ j := by
      have := hc.1
      rw [List.length_take] at this
      omega
    refine wpAny_setAddHashed_of (knd := PySem.strKind prog w) (s := { s2 with toks := s2.toks + 1 }) (strKind_is _ _ _ _) rfl hS2 (by omega) fun hp sb hS3 => ?_
    have hc3 := cnt_snoc hc (xs.getD j Str.empty)
    rw [← ex] at hc3
    have hS4 := SetOf_congr (S' := InTx (xs.take (j + 1))) hS3 (fun z => by rw [ex, inTx_snoc]) rfl
    refine wpAny_pure ⟨plainId_quiet PyProof.Rows.F.plain_set_update_loop _, ih (j + 1) _ _ (by omega) lt (W.frame _ s2 _ _ at1 (Nat.le_succ _) fun d hd o q => ?_) hc3 hS4 fun s4 c4 mv4 hc4 hS5 => ?_⟩
    · rw [sb.2 d fun q2 : d = D => out (q2 ▸ hd)]
      exact q
    · refine fin s4 c4 (Moved.trans W.gtrans ((mv.mono more).then_heap (Nat.le_succ _) fun d o hd q => ?_) mv4) hc4 hS5
      rw [sb.2 d fun q2 : d = D => hd (q2 ▸ List.mem_cons_self)]
      exact q
end
section
variable {prog : Program} {w : World} {A : Around} {E : Value → Shared → Prop} {s : Shared}
/-- the new empty set -/
abbrev newSet (led : Bool) : Obj := { cls := .type "set", dict := none, data := .set #[] 0 (.fresh 0 0 led) }
theorem set_of_texts {l : Addr} {its : Array Value} {xs : List Str} {Q : Value → Shared → Prop}
    (calm : A.handled = none) (hl : s.heap.IsList l its) (hi : StrsAre its.toList xs) (room : its.size + 1 < scanBound)
    (h : ∀ (h2 : Heap) (tk c : Nat), Cnt xs c → h2.SetOf (PySem.strKind prog w) s.heap.objs.size (InTx xs) c →
      (∀ d o, d < s.heap.objs.size → s.heap.get? d = some o → h2.get? d = some o) → Q (.ref s.heap.objs.size) { s with heap := h2, toks := tk }) :
    wpAny (model prog w) A (call (.type "set") [.ref l]) Q E s := by
  obtain ⟨c0, tl0, hmro0⟩ := PySem.F.called_set.mro
  have made0 := PySem.F.called_set.made
  have sub0 := PySem.F.called_set.sub
  refine wpAny_call (codeAny_of_tree (show wpAny _ _ (callAny (.type "set") _) _ _ _ from ?_))
  refine wpAny_pure ⟨Code.quiet_builtin _ (by decide +kernel), codeAny_builtin PySem.F.entry_type_call (?_ : wpAny _ _ _ _ _ _)⟩
  rw [Around.under_plain (weight_type_call_type "set" [Value.ref l] []) rfl]
  have nt0 := PySem.F.called_set.notType
  have cc0 := PySem.F.called_set.canCreate
  have tc0 := PySem.F.typeCall_set_1 (.ref l)
  repeat (any_goals (first | wp_step | assumption))
  refine codeAny_mono (code_set_new_1 (.ref l) (E := E) (Q₁ := fun ob s1 => ∃ led : Bool, ob = .ref s.heap.objs.size ∧ s1 = { s with heap := s.heap.push (newSet led) }) fun led => ⟨led, rfl, rfl⟩) fun rs s1 hr => ?_
  match rs, hr with
  | .error e, hr => exact hr
  | .ok (.ret ob), hr =>
    obtain ⟨led, rfl, rfl⟩ := hr
    have gS : (s.heap.push (newSet led)).get? s.heap.objs.size = some (newSet led) := Heap.get?_push_size _ rfl
    have tS : Shared.TypeIs { s with heap := s.heap.push (newSet led) } (.ref s.heap.objs.size) "set" := ⟨_, gS, rfl⟩
    have li0 := PySem.F.called_set.init.lookup
    have bi0 := PySem.F.called_set.init.bind (.ref s.heap.objs.size)
    repeat (any_goals (first | wp_step | assumption))
    refine codeAny_mono (codeAny_call_builtin (R := wants (fun v s2 => v = .none ∧ ∃ h2 tk c, s2 = { s with heap := h2, toks := tk } ∧ Cnt xs c ∧ h2.SetOf (PySem.strKind prog w) s.heap.objs.size (InTx xs) c ∧
        (∀ d o, d < s.heap.objs.size → s.heap.get? d = some o → h2.get? d = some o)) E) PySem.F.called_set.init.plain PySem.F.entry_set_init (check_set_init_1 tS ?_)) fun rs2 s2 hr2 => ?_
    · obtain ⟨⟨cl0, dc0, da0, sl0⟩, gl, ecl, nl, edl⟩ := hl
      simp only at ecl edl
      subst ecl; subst edl
      have gl2 : (s.heap.push (newSet led)).get? l = some { cls := .type "list", dict := dc0, data := .seq its nl, slots := sl0 } := Heap.get?_push_of_some _ gl
      have ls0 := PySem.F.sub_list_set
      have lf0 := PySem.F.sub_list_frozenset
      have ne0 : (Value.type "list" == Value.type "dict") = false := by decide
      have il2 : (s.heap.push (newSet led)).IsList l its := ⟨_, gl2, rfl, nl, rfl⟩
      unfold Builtin.«set.__init__» Builtin.Frozenset.updateFrom noKeywords
      generalize ePI : pyIter = PI
      wp_walk
      subst ePI
      refine wpAny_pyIter_list il2 (wpAny_bind (wpAny_runValue ?_))
      have lS : l < s.heap.objs.size := Heap.lt_size gl
      have calm3 : A.in1.in1.in1.handled = none := by simp [calm]
      have neI : l ≠ (s.heap.push (newSet led)).objs.size := by
        rw [Heap.size_push]
        exact Nat.ne_of_lt (Nat.lt_add_right 1 lS)
      have outS : s.heap.objs.size ∉ [(s.heap.push (newSet led)).objs.size, l] := by
        rw [Heap.size_push]
        simp only [List.mem_cons, List.not_mem_nil, or_false, not_or]
        exact ⟨Nat.ne_of_lt (Nat.lt_add_one _), Nat.ne_of_gt lS⟩
      have few : xs.length = its.size := by rw [← StrsAre.len_eq hi, Array.length_toList]
      refine loopTx ((Walks.list calm3 _ l neI its).toS) s.heap.objs.size outS xs few room (fun j v hv => SS.strs_at hi j v (by rw [Array.getElem?_toList]; exact hv)) (its.size - 0) 0 _ 0 (by omega) (Nat.zero_le _)
        ⟨⟨_, Heap.get?_push_size _ rfl, rfl, rfl⟩, il2.push _⟩ ⟨Nat.zero_le _, by simp⟩ ?_ fun s3 c3 mv hc3 hS3 => ?_
      · have g3 : ((s.heap.push (newSet led)).push { cls := .type "list_iterator", data := .fields #[.ref l, .int 0 0] }).get? s.heap.objs.size = some (newSet led) := Heap.get?_push_of_some _ gS
        exact SetOf_congr ((setObjOf_fresh (knd := PySem.strKind prog w) led).setOf g3 (by unfold scanBound; omega)) (fun _ => rfl) rfl
      · obtain ⟨h3, gn3, dr3, tk3, os3⟩ := s3
        obtain rfl : gn3 = s.gens := mv.gens
        obtain rfl : dr3 = s.drawn := mv.drawn
        obtain rfl : os3 = s.os := mv.os
        refine wpAny_pure (show wpAny _ _ (ret Value.none) _ _ _ from wpAny_pure ⟨rfl, h3, tk3, c3, rfl, hc3, hS3, fun d o hd q => ?_⟩)
        refine mv.heap d o ?_ (Heap.get?_push_of_some _ (Heap.get?_push_of_some _ q))
        rw [Heap.size_push]
        simp only [List.mem_cons, List.not_mem_nil, or_false, not_or]
        exact ⟨Nat.ne_of_lt hd, Nat.ne_of_lt (Nat.lt_add_right 1 hd)⟩
    · match rs2, hr2 with
      | .error e, hr2 => exact hr2
      | .ok (.ret v), hr2 =>
        obtain ⟨rfl, h2, tk, c, rfl, hc, hS2, keeps⟩ := hr2
        repeat (any_goals (first | wp_step | assumption))
        exact h _ _ _ hc hS2 keeps
end
/-- len(set(xs)), xs a list of texts -/
def tLenSetT (K : PySem.W.Frag) (ta : TE) : TE := fun σ H Q => ta σ H fun x H1 => ∃ (l : Addr) (xs : List Str), x = .ref l ∧ SqL K H1 l (xs.map V.str) ∧ xs.length ≤ 4000 ∧ ∀ c : Nat, Cnt xs c → Q (.int c) H1
theorem pe_lenSetT {X : Cx} {a : Expr} {ta : TE} {p p2 q pos : Pos} (hc : X.calm = true) (hg : Gl X "len") (hm : X.mg "len" = none) (hg2 : Gl X "set") (hm2 : X.mg "set" = none) (ha : PE X a ta)
    (na : starEach [a] X.env = (false, eval a X.env) :: starEach [] X.env := by rfl) : PE X (.Call (.Name "len" p) [.Call (.Name "set" p2) [a] [] q] [] pos) (tLenSetT X.K ta) := by
  refine ⟨fun pins s σ H Q I h => Call_ (ld_blt I hg hm boot_len ?_)⟩
  refine callWith_builtin1 (args_cons (Call_ (ld_blt I hg2 hm2 boot_set ?_)) rfl) rfl rfl
  refine callWith_type1 (args_cons (thn (ha.run pins s σ H _ I h) fun v s1 ⟨x, H1, I1, r1, q1⟩ => args_nil ?_) na) na rfl
  obtain ⟨l, xs, rfl, hq, few, q1⟩ := q1
  cases r1
  obtain ⟨its, rv, pl, _⟩ := I1.list hq
  have el : its.toArray.size = xs.length := by rw [List.size_toArray, ← rv.length, List.length_map]
  refine set_of_texts (I1.ok.hd hc) pl.isList (by simpa using strsAre_of rv) (by rw [el]; unfold scanBound; omega) fun h2 tk c hcn hS hk => args_nil ?_
  obtain ⟨o, es, ep, t, ho, hex, hd, _, _, _, hf, hn⟩ := hS
  have I2 : Inv X pins σ H1 { s1 with heap := h2, toks := tk } := I1.kept fun b o e => hk b o (Heap.lt_size e) e
  have := hcn.1
  exact call_len_set ho hex hd hf (by rw [hn]; omega) ⟨.int c, H1, I2.tok _, ⟨_, by rw [hn]⟩, q1 c hcn⟩
end L2.LqX


set_option Elab.async false
set_option linter.all false
set_option maxRecDepth 100000
set_option maxHeartbeats 4000000
namespace L2.LqX
open PySem PySem.Spec PyProof.Rows L2
/-! sorted of a list of tuples that begin with texts, no text twice -/
/-- the order of texts -/
def txB (x y : Str) : Bool := decide (x.cps.toList < y.cps.toList)
theorem txB_asym {x y : Str} (h : txB x y = true) : txB y x = false := by
  unfold txB at h ⊢
  exact decide_eq_false (List.lt_asymm (of_decide_eq_true h))
theorem txB_tr {x y z : Str} (h1 : txB y x = false) (h2 : txB z y = false) : txB z x = false := by
  unfold txB at h1 h2 ⊢
  have a := of_decide_eq_false h1
  have b := of_decide_eq_false h2
  refine decide_eq_false ?_
  rw [List.not_lt] at a b ⊢
  exact List.le_trans a b
theorem txB_ne {x y : Str} (h : x ≠ y) : txB x y = true ∨ txB y x = true := by
  unfold txB
  by_cases a : x.cps.toList < y.cps.toList
  · exact .inl (decide_eq_true a)
  · by_cases b : y.cps.toList < x.cps.toList
    · exact .inr (decide_eq_true b)
    · refine absurd ?_ h
      rw [List.not_lt] at a b
      have e := List.le_antisymm b a
      cases x; cases y
      simp only [Str.mk.injEq]
      exact Array.toList_inj.mp e
theorem txB_swo {α : Type} (k : α → Str) : SrtO.Swo fun v u => txB (k v) (k u) := ⟨fun x y h => txB_asym h, fun x y z h1 h2 => txB_tr h1 h2⟩
/-- a tuple of a text and something -/
def TxP (h : Heap) (v : Value) (x : Str) : Prop := ∃ a o t y n, v = .ref a ∧ h.get? a = some o ∧ o.cls = .type "tuple" ∧ o.data = .seq #[.str x t, y] n
theorem TxP.keeps {h h2 : Heap} {v : Value} {x : Str} (p : TxP h v x) (k : ∀ d o, h.get? d = some o → o.cls = .type "tuple" → h2.get? d = some o) : TxP h2 v x := by
  obtain ⟨a, o, t, y, n, e, ho, hc, hd⟩ := p
  exact ⟨a, o, t, y, n, e, k _ _ ho hc, hc, hd⟩
section
variable {prog : Program} {w : World} {A : Around} {E : Value → Shared → Prop} {s : Shared}
theorem txp_cmp {vs : List Value} {k : Value → Str} (hp : ∀ v ∈ vs, TxP s.heap v (k v)) (inj : ∀ v ∈ vs, ∀ u ∈ vs, k v = k u → v = u) : SrtO.Cmp prog w A s (tuples' true) (fun p => p.1 ∈ vs) (SrtO.lt2 fun v u => txB (k v) (k u)) := by
  intro p q hm hm2
  obtain ⟨a, o, t, y, n, e, ho, hc, hd⟩ := hp _ hm
  obtain ⟨a2, o2, t2, y2, n2, e2, ho2, hc2, hd2⟩ := hp _ hm2
  have ij := inj _ hm _ hm2
  show wpAny (model prog w) A (keyLt' (tuples' true) p.1 q.1) (fun r s' => s' = s ∧ r = txB (k p.1) (k q.1)) (fun _ _ => False) s
  generalize k p.1 = x at *
  generalize k q.1 = x2 at *
  rw [e, e2] at ij ⊢
  refine PySem.W.kat_lt ho hd ho2 hd2 ?_
  show PySem.W.KatLex prog w A true (decide (2 < 2)) _ [(.str x t, .str x2 t2), (y, y2)] 0 s
  refine PySem.W.kat_cons (SeqAt.EqAt.str_str x t x2 t2 prog w _ _ (PySem.W.kat_go (fun e1 => ?_) fun e1 => ?_))
  · have ex : x = x2 := eq_of_beq e1
    have ea : a = a2 := Value.ref.inj (ij ex)
    subst ea
    have eo : o = o2 := Option.some.inj (ho.symm.trans ho2)
    subst eo
    have ey : y = y2 := by
      have z := hd.symm.trans hd2
      simp at z
      exact z.1.2
    subst ey
    refine PySem.W.kat_yes (PySem.W.kat_cons (SeqAt.EqAt.same y prog w _ _ (PySem.W.kat_yes (PySem.W.kat_nil ⟨rfl, ?_⟩))))
    rw [ex]
    exact ((txB_swo (fun z : Str => z)).refl x2).symm
  · exact PySem.W.kat_no (oneLt_str ⟨rfl, rfl⟩)
theorem txp_firsts {h : Heap} {k : Value → Str} : ∀ {vs : List Value}, (∀ v ∈ vs, TxP h v (k v)) → ∃ fs : List Value, PySem.W.KatTups h vs fs ∧ fs.length = vs.length ∧ ∀ f ∈ fs, ∃ x t, f = Value.str x t
  | [], _ => ⟨[], PySem.W.KatTups.nil, rfl, fun _ m => nomatch m⟩
  | v :: vs, hp => by
    obtain ⟨fs, h1, h2, h3⟩ := txp_firsts (vs := vs) fun u m => hp u (List.mem_cons_of_mem _ m)
    obtain ⟨a, o, t, y, n, e, ho, hc, hd⟩ := hp v (List.mem_cons_self ..)
    generalize k v = x at hd
    subst e
    refine ⟨.str x t :: fs, PySem.W.KatTups.cons ho hc hd rfl h1, by rw [List.length_cons, List.length_cons, h2], fun f m => ?_⟩
    rcases List.mem_cons.mp m with rfl | m
    · exact ⟨x, t, rfl⟩
    · exact h3 f m
theorem txp_sortable {a : Addr} {vs : List Value} {k : Value → Str} (h0 : 0 < vs.length) (hp : ∀ v ∈ vs, TxP s.heap v (k v)) (inj : ∀ v ∈ vs, ∀ u ∈ vs, k v = k u → v = u) (ha : ∀ o, s.heap.get? a = some o → o.cls ≠ .type "tuple") :
    SrtO.SortableO prog w A s a vs fun v u => txB (k v) (k u) := by
  intro h2 keep
  have hp2 : ∀ v ∈ vs, TxP h2 v (k v) := fun v m => (hp v m).keeps fun d o e c => keep d o (fun z => by subst z; exact ha o e c) e
  obtain ⟨fs, h1, hl, h3⟩ := txp_firsts hp2
  refine ⟨tuples' true, fun Q E hq => PySem.W.kat_kind (T := .type "str") h1 (by omega) (fun f m => ?_) rfl ?_, txp_cmp hp2 inj⟩
  · obtain ⟨x, t, rfl⟩ := h3 f m
    exact PySem.W.Looks.now
  · have e : (Value.type "str" != Value.type "tuple") = true := by first | decide +kernel | rfl | decide
    rw [e]
    exact hq
end
/-- sorted(xs), xs a list of tuples that begin with texts (k tells them), no text twice -/
def rSortedTx (K : PySem.W.Frag) : List V → Hp → VK → Prop := fun vs H Q => ∃ (a : Addr) (xs : List V) (k : V → Str), vs = [V.ref a] ∧ SqL K H a xs ∧ (∀ x ∈ xs, ∃ t y, x = V.ref t ∧ H t = some (.tup [.str (k x), y])) ∧ (xs.map k).Nodup ∧
  ∀ ys p, ys.Perm xs → ys.Pairwise (fun x y => txB (k x) (k y) = true) → H p = none → Q (.ref p) (upd H p (.lst ys))
theorem inj_of_nodup {α : Type} {k : α → Str} : ∀ {xs : List α}, (xs.map k).Nodup → ∀ x ∈ xs, ∀ y ∈ xs, k x = k y → x = y
  | [], _, x, hx, _, _, _ => nomatch hx
  | z :: xs, nd, x, hx, y, hy, e => by
    rw [List.map_cons, List.nodup_cons] at nd
    rcases List.mem_cons.mp hx with rfl | hx2
    · rcases List.mem_cons.mp hy with rfl | hy
      · rfl
      · exact absurd (List.mem_map.mpr ⟨y, hy, e.symm⟩) nd.1
    · rcases List.mem_cons.mp hy with ey | hy2
      · exact absurd (List.mem_map.mpr ⟨x, hx2, e.trans (congrArg k ey)⟩) nd.1
      · exact inj_of_nodup nd.2 x hx2 y hy2 e
theorem cr_sortedTx {X : Cx} : CallR X (.builtin "sorted") (rSortedTx X.K) := by
  intro pins s σ H vs us Q I r h
  obtain ⟨a, xs, k, rfl, hs, hx, nd, q⟩ := h
  obtain ⟨its, rv, hl, hz⟩ := I.list hs
  obtain ⟨u, rfl, ru⟩ := vals1 r
  obtain rfl : u = Value.ref a := ru
  obtain ⟨e1, e2⟩ := refs_back rv fun x m => by
    obtain ⟨t, _, e, _⟩ := hx x m
    exact ⟨t, e⟩
  have hz2 : its.length ≤ sizeLine := by rw [← rv.length]; exact hz
  have hp : ∀ v ∈ its, TxP s.heap v (k (backV v)) := fun v hv => by
    obtain ⟨t, rfl⟩ := e2 v hv
    obtain ⟨t', y, e, ht⟩ := hx (V.ref t) (by rw [e1]; exact List.mem_map.mpr ⟨_, hv, rfl⟩)
    cases e
    obtain ⟨_, its2, r2, o, ho, hc, n, hd⟩ := I.hok _ _ ht
    obtain ⟨u1, u2, rfl, ri, rj⟩ := vals2 r2
    obtain ⟨t1, rfl⟩ := ri
    exact ⟨t, o, t1, u2, n, rfl, ho, hc, hd⟩
  have inj : ∀ v ∈ its, ∀ u ∈ its, k (backV v) = k (backV u) → v = u := fun v hv u hu e => by
    rw [e1, List.map_map] at nd
    exact inj_of_nodup (k := k ∘ backV) nd v hv u hu e
  refine SrtO.sorted_ord (txB_swo fun v => k (backV v)) hl.isList hz2 (fun h2 h1 d hd kk => ?_) fun out hs2 hb => ?_
  · refine txp_sortable (s := { s with heap := h1 }) (by omega) (fun v m => (hp v m).keeps fun b o e _ => (kk b o e).2) inj fun o e => ?_
    have e' := e.symm.trans hd
    cases e'
    exact fun c => absurd (Value.type.inj c) (by decide)
  · have h3 : ∀ u ∈ out, ∃ a, u = Value.ref a := fun u hu => e2 u (hb.perm.mem_iff.mp hu)
    obtain ⟨n, hn⟩ := sortedAll_at s.heap its out.toArray
    have pm : (out.map backV).Perm xs := by
      rw [e1]
      exact hb.perm.map backV
    have ndo : ((out.map backV).map k).Nodup := (pm.map k).nodup_iff.mpr nd
    have st : (out.map backV).Pairwise (fun x y => txB (k x) (k y) = true) := by
      have w1 : (out.map backV).Pairwise (fun x y => txB (k y) (k x) = false) := List.pairwise_map.mpr hs2
      have w2 : (out.map backV).Pairwise (fun x y => k x ≠ k y) := List.pairwise_map.mp ndo
      exact (w1.and w2).imp fun {x y} z => (txB_ne z.2).resolve_right fun c => by rw [z.1] at c; cases c
    refine ⟨.ref (s.heap.objs.size + 1), upd H (s.heap.objs.size + 1) (.lst (out.map backV)), I.laid (t' := s.toks) (fun b o e => sortedAll_old e) (Nat.le_succ _) ⟨?_, out, n, vals_back h3, hn⟩, rfl, q _ _ pm st (I.hok.fresh (Nat.le_succ _))⟩
    rw [pm.length_eq]
    exact hz
end L2.LqX


set_option Elab.async false
set_option linter.all false
set_option maxRecDepth 100000
set_option maxHeartbeats 4000000
namespace L2.LqX
open PySem PySem.Spec PyProof.Rows L2
section
variable {X : Cx} {CX : CXT} {k : Nat} {g C : Addr} {sp : Sp} {E : XK} {pins : List (Addr × Obj)} {σ : L2.St} {H : Hp} {s : Shared} {Q : VK} {us : List Value} {vs : List V}
/-- v in o, v not in o by the own method -/
def rInO (C : Addr) (sp : Sp) (E : XK) (f : Bool → Bool) : R2 := fun x y H Q => ∃ (a dx : Addr) (fs : List (Str × V)), y = .ref a ∧ H a = some (.ins C dx fs) ∧ sp [y, x] H (fun v H' => ∃ t, v = .bl t ∧ Q (.bl (f t)) H') E
theorem op_inO (m : OwnM X.K C "__contains__" g) (F : FnR X.prog X.w X.K X.mg X.base CX k g sp) (hr : Room k X.A) (hx : Passes CX X E) : OpR X (compareOp .In) (rInO C sp E fun b => b) := by
  intro pins s σ H x y v u Q I rx ry ⟨a, dx, fs, ey, e, q⟩
  subst ey
  obtain rfl : u = Value.ref a := ry
  obtain ⟨ox, od, J⟩ := ins_at I e
  obtain ⟨m0, F0⟩ := I.fr
  refine PySem.W.in_K F0 I.mod.kin J m.at_ m.fn (wpAny_mono (run_at (us := [.ref a, v]) (vs := [.ref a, x]) F hr I.env0 hx I (.cons rfl (.cons rx .nil)) q) (fun r s' hv => ?_) fun _ _ z => z)
  obtain ⟨z, H', I', rz, t, rfl, q'⟩ := hv
  obtain rfl : r = Value.bool t := rz
  exact wpAny_truthy_bool ⟨.bl t, H', I', rfl, q'⟩
theorem op_notInO (m : OwnM X.K C "__contains__" g) (F : FnR X.prog X.w X.K X.mg X.base CX k g sp) (hr : Room k X.A) (hx : Passes CX X E) : OpR X (compareOp .NotIn) (rInO C sp E fun b => !b) := by
  intro pins s σ H x y v u Q I rx ry ⟨a, dx, fs, ey, e, q⟩
  subst ey
  obtain rfl : u = Value.ref a := ry
  obtain ⟨ox, od, J⟩ := ins_at I e
  obtain ⟨m0, F0⟩ := I.fr
  refine PySem.W.notIn_K F0 I.mod.kin J m.at_ m.fn (wpAny_mono (run_at (us := [.ref a, v]) (vs := [.ref a, x]) F hr I.env0 hx I (.cons rfl (.cons rx .nil)) q) (fun r s' hv => ?_) fun _ _ z => z)
  obtain ⟨z, H', I', rz, t, rfl, q'⟩ := hv
  obtain rfl : r = Value.bool t := rz
  exact wpAny_truthy_bool ⟨.bl (!t), H', I', rfl, q'⟩
/-- len(o) by the own method -/
def rLenO (C : Addr) (sp : Sp) (E : XK) : List V → Hp → VK → Prop := fun xs H Q => ∃ (a dx : Addr) (fs : List (Str × V)), xs = [.ref a] ∧ H a = some (.ins C dx fs) ∧ sp [.ref a] H (fun v H' => ∃ n : Int, v = .int n ∧ 0 ≤ n ∧ n < 2 ^ 63 ∧ Q v H') E
theorem call_lenO (m : OwnM X.K C "__len__" g) (F : FnR X.prog X.w X.K X.mg X.base CX k g sp) (hr : Room (k + 1) X.A) (hx : Passes CX X E) : CallR X (.builtin "len") (rLenO C sp E) := by
  intro pins s σ H xs us Q I r ⟨a, dx, fs, ex, e, q⟩
  subst ex
  obtain ⟨u, rfl, ru⟩ := vals1 r
  obtain rfl : u = Value.ref a := ru
  obtain ⟨ox, od, J⟩ := ins_at I e
  refine Calls.call_function_entry PySem.kind_len PySem.plain_len PySem.entry_len (PySem.args_len1 _) ?_
  unfold Builtin.«len»
  refine wpAny_bind (m := oneArg "len" _) (wpAny_pure ?_)
  refine wpAny_bind (m := callSpecial? (.ref a) (Str.ofString "__len__")) (PySem.W.special_fn I.kIn J m.at_ (beq_iff_eq.mp m.fn) (wpAny_mono (run_at (us := [.ref a]) (vs := [.ref a]) F hr.in1 I.env0.in1 hx I (.cons rfl .nil) q) (fun v s' hv => ?_) fun _ _ z => z))
  obtain ⟨z, H', I', rz, n, rfl, h0, h1, q'⟩ := hv
  obtain ⟨t, rfl⟩ : ∃ t, v = .int n t := rz
  refine wpAny_bind (wpAny_holding (wpAny_pure ?_))
  refine wpAny_bind (wpAny_letGo ?_)
  show wpAny _ _ (if n < 0 then _ else _) _ _ _
  rw [if_neg (by omega)]
  show wpAny _ _ (if n ≥ 2 ^ 63 then _ else _) _ _ _
  rw [if_neg (by omega)]
  exact wpAny_bind (wpAny_mkInt (wpAny_pure ⟨_, rfl, ⟨.int n, H', I'.tok _, ⟨_, rfl⟩, q'⟩⟩))
end
end L2.LqX


set_option Elab.async false
set_option linter.all false
set_option maxRecDepth 100000
set_option maxHeartbeats 4000000
/-! Either of two rules; sorted(t) of a tuple of texts; a comprehension with two for -/
namespace L2.LqX
open PySem PySem.Spec PyProof.Rows L2
section
variable {X : Cx}
def iOr (w v : TI) : TI := fun σ H R => w σ H R ∨ v σ H R
theorem pi_or2 {tg e : Expr} {w v : TI} (h : PI X tg e w) (k : PI X tg e v) : PI X tg e (iOr w v) := ⟨fun pins s σ H R I z => z.elim (h.run pins s σ H R I) (k.run pins s σ H R I)⟩
def rOr (r q : List V → Hp → VK → Prop) : List V → Hp → VK → Prop := fun xs H Q => r xs H Q ∨ q xs H Q
theorem callR_or {f : Value} {r q : List V → Hp → VK → Prop} (h : CallR X f r) (k : CallR X f q) : CallR X f (rOr r q) := fun pins s σ H xs us Q I v z => z.elim (h pins s σ H xs us Q I v) (k pins s σ H xs us Q I v)
def tOrE (t u : TE) : TE := fun σ H Q => t σ H Q ∨ u σ H Q
theorem pe_or2 {e : Expr} {t u : TE} (h : PE X e t) (k : PE X e u) : PE X e (tOrE t u) := ⟨fun pins s σ H Q I z => z.elim (h.run pins s σ H Q I) (k.run pins s σ H Q I)⟩
end
section
variable {prog : Program} {w : World} {A : Around} {E : Value → Shared → Prop} {s : Shared}
theorem collect_tup {l : Addr} {vs : List Value} {Q : List Value → Shared → Prop} (hl : s.heap.IsTuple l vs.toArray)
    (h : Q vs { s with heap := (s.heap.push (seqObj "list" #[] 0)).update s.heap.objs.size (Obj.mapSeq (· ++ vs.toArray)) }) (hsz : vs.length ≤ sizeLine) :
    wpAny (model prog w) A (collect (.ref l)) Q E s := by
  obtain ⟨o, ho, hc, n, hd⟩ := id hl
  unfold collect
  refine wpAny_bind (wpAny_runValue (codeAny_builtin entry_proto_collect' ?_))
  show wpAny _ _ (do again (.builtin "list.__iadd__" ⟨[← newList [], .ref l], []⟩)) _ _ s
  refine wpAny_bind (wpAny_newList (wpAny_pure ⟨Code.quiet_builtin _ (by decide +kernel), codeAny_builtin entry_list_iadd' ?_⟩))
  show wpAny _ _ (Builtin.List.listExtendWith (.ref s.heap.objs.size) (.ref l) (.ref s.heap.objs.size)) _ _ { s with heap := s.heap.push (seqObj "list" #[] 0) }
  unfold Builtin.List.listExtendWith
  have ho' : (s.heap.push (seqObj "list" #[] 0)).get? l = some o := Heap.get?_push_of_some _ ho
  refine wpAny_bind (wpAny_typeOf (T := "tuple") ⟨o, ho', hc⟩ ?_)
  have ht : (Value.type "tuple" == Value.type "tuple") = true := by rfl
  rw [if_pos (by rw [ht]; simp)]
  refine wpAny_bind (listItems_at ho' hd ?_)
  refine wpAny_bind (listItems_at (xs := #[]) (n := 0) (Heap.get?_push_size _ rfl) rfl ?_)
  rw [if_neg (by simp)]
  refine wpAny_bind (listUpdate_at (xs := #[]) (n := 0) (Heap.get?_push_size _ rfl) rfl ?_ (Nat.zero_le _) (by show (#[] ++ vs.toArray).size ≤ sizeLine + 1; simp only [Array.size_append, List.size_toArray, List.length_nil]; omega))
  refine wpAny_pure ?_
  show wpAny (model prog w) A (do
      let o ← load s.heap.objs.size
      match o.data with
      | .seq xs _ => pure xs.toList
      | _ => unsupported "internal:collect") Q E { s with heap := (s.heap.push (seqObj "list" #[] 0)).update s.heap.objs.size (Obj.mapSeq (· ++ vs.toArray)) }
  refine wpAny_bind (wpAny_load (get?_update_seq (Heap.get?_push_size _ rfl) _) ?_)
  show wpAny _ _ (pure ((#[] : Array Value) ++ vs.toArray).toList) Q E _
  rw [show ((#[] : Array Value) ++ vs.toArray).toList = vs by simp]
  exact wpAny_pure h
theorem sortedK_tup {κ : KeyKind} (hO : κ.OneLt) {l : Addr} {vs : List Value} {Q : Value → Shared → Prop} (hl : s.heap.IsTuple l vs.toArray) (h0 : KeysOf κ (pairsOf vs)) (hkk : ∀ v₁ v₂ rest, vs = v₁ :: v₂ :: rest → keyKind' (v₁ :: v₂ :: rest).toArray = pure oneType') (h64 : vs.length < 64)
    (h : ∀ st' : SortSt, (arrOf st').Perm (pairsOf vs) → SortedToK κ (arrOf st') (pairsOf vs).size → Q (.ref (s.heap.objs.size + 1)) { s with heap := sortedAll s.heap vs ((arrOf st').map (·.2)) }) :
    wpAny (model prog w) A (call (.builtin "sorted") [.ref l]) Q E s := by
  refine Calls.call_function_entry kind_sorted plain_sorted entry_sorted (args_sorted1 _) ?_
  unfold Builtin.«sorted»
  refine wpAny_bind (m := checkCount "sorted" 1 1 _) (wpAny_pure ?_)
  refine wpAny_bind (collect_tup hl ?_ (small64 h64))
  refine wpAny_bind (wpAny_newList ?_)
  have hsz : ((s.heap.push (seqObj "list" #[] 0)).update s.heap.objs.size (Obj.mapSeq (· ++ vs.toArray))).objs.size = s.heap.objs.size + 1 := by
    rw [Heap.size_update, size_push']
  have hoL : (((s.heap.push (seqObj "list" #[] 0)).update s.heap.objs.size (Obj.mapSeq (· ++ vs.toArray))).push (seqObj "list" vs.toArray 0)).get? (s.heap.objs.size + 1) = some (seqObj "list" vs.toArray 0) := by
    rw [← hsz]; exact Heap.get?_push_size _ rfl
  show wpAny _ _ _ _ _ { s with heap := ((s.heap.push (seqObj "list" #[] 0)).update s.heap.objs.size (Obj.mapSeq (· ++ vs.toArray))).push (seqObj "list" vs.toArray 0) }
  rw [hsz]
  refine wpAny_bind (wpAny_holding (wpAny_call_entry slot_list_sort ⟨_, hoL, rfl⟩ entry_list_sort (list_sort_treeK hO hoL h0 hkk h64 fun st' a1 a2 => ⟨_, rfl, ?_⟩) (args_list_sort _)))
  exact wpAny_pure ⟨_, rfl, h st' a1 a2⟩
end
/-- sorted(t), t a tuple of texts -/
def rSortedST (K : PySem.W.Frag) : List V → Hp → VK → Prop := fun vs H Q => ∃ (a : Addr) (xs : List Str), vs = [V.ref a] ∧ SqT K H a (xs.map V.str) ∧ xs.length < 64 ∧ ∀ (ys : List Str) (p : Addr), ys.Perm xs → sortedS ys = true → H p = none → Q (.ref p) (upd H p (.lst (ys.map V.str)))
theorem cr_sortedST {X : Cx} : CallR X (.builtin "sorted") (rSortedST X.K) := by
  intro pins s σ H vs us Q I r h
  obtain ⟨a, xs, rfl, hs, h64, q⟩ := h
  obtain ⟨its, rv, ⟨ot, et, ct, nt, dt⟩, _⟩ := I.tuple hs
  rw [Vals.ref1 r]
  have hlen0 := rv.length
  rw [List.length_map] at hlen0
  have hS := rv.strs
  refine sortedK_tup strKind_oneLt (show s.heap.IsTuple a its.toArray from ⟨ot, et, ct, nt, dt⟩) hS.keysOf (fun v₁ v₂ rest e => keyKind_strs (by rw [← e]; exact hS)) (by rw [← hlen0]; exact h64) fun st' hp hs => ?_
  obtain ⟨ys, h1, h2, h3⟩ := sorted_out_str hS hp hs
  obtain ⟨ep, he'⟩ := sortedAll_at s.heap its ((arrOf st').map (·.2))
  have hlen : (ys.map V.str).length ≤ sizeLine := by rw [List.length_map, h2.length_eq]; exact small64 h64
  exact ⟨.ref _, upd H (s.heap.objs.size + 1) (.lst (ys.map V.str)), I.laid (t' := s.toks) (fun _ _ => sortedAll_old) (Nat.le_succ _) ⟨hlen, _, ep, vals_of_strs h1, he'⟩, rfl, q ys _ h2 h3 (I.hok.fresh (Nat.le_succ _))⟩
/-- any walk: a body B by the item, the heap and what comes next -/
theorem loop_it {J : It} {n : Nat} {G : Hp → Prop} {Y : Nat → Hp → V → Hp → Prop} (w : Walk J n G Y) {B : V → Hp → (Hp → Prop) → Prop} {H0 : Hp} {Qd : Hp → Prop} (Pv : Nat → Hp → Prop) (h0 : Pv 0 H0) (hG : ∀ i H, i ≤ n → Pv i H → G H)
    (hs : ∀ i x H H', i < n → Pv i H → Y i H x H' → B x H' (Pv (i + 1))) (hd : ∀ H, Pv n H → Qd H) :
    ∃ W : Nat → Nat → Hp → Prop, (∃ m, W 0 m H0) ∧ ∀ i m H, W i m H → (J.stop i H ∧ Qd H) ∨ (J.go i H ∧ ∃ Nx : Hp → Prop, (∀ H', Nx H' → ∃ m', m' < m ∧ W (i + 1) m' H') ∧ ∀ x H', J.yld i H x H' → B x H' Nx) := by
  refine ⟨fun i m H => m = n - i ∧ i ≤ n ∧ Pv i H, ⟨n, by simp, Nat.zero_le _, h0⟩, ?_⟩
  rintro i m H ⟨rfl, hi, p⟩
  have q := hG i H hi p
  by_cases hlt : i < n
  · exact .inr ⟨w.goes i H hlt q, Pv (i + 1), fun H' p' => ⟨n - (i + 1), by omega, rfl, hlt, p'⟩, fun x H' y => hs i x H H' hlt p (w.yields i H x H' hlt q y)⟩
  · have e : i = n := by omega
    subst e
    exact .inl ⟨w.stops H q, hd H p⟩
end L2.LqX


set_option Elab.async false
set_option linter.all false
set_option maxRecDepth 100000
set_option maxHeartbeats 4000000
/-! set(xs) of ints; C() and C(*xs) by a star __init__; o | p, o |= p, bool(o) by own methods -/
namespace L2.LqX
open PySem PySem.Spec PyProof.Rows L2
section
variable {X : Cx} {CX : CXT} {k : Nat} {f g C : Addr} {sp : Sp} {E : XK} {x : Str} {p pos sps : Pos} {e : Expr} {te : TE}
/-- C(), the __init__ by what it does with any values -/
theorem pe_makeR0 (M : Mk X.K C f) (F : FnR X.prog X.w X.K X.mg X.base CX k f sp) (hr : Room (k + 1) X.A) (hg : Gl X x) (hm : X.mg x = some (.ref C)) (hx : Passes CX X E) (hdb : (x == ("__debug__" : Str)) = false := by decide) :
    PE X (.Call (.Name x p) [] [] pos) (StX.tMakeR C sp E tNil) := by
  refine ⟨fun pins s σ H Q I h => wpAny_Call_Name_kw (ld_glob I hg hm ?_ hdb)⟩
  exact PySem.W.callWith_K0 I.kIn M.kp (StX.run_makeR (us := []) M F hr hx I .nil h)
/-- C(*xs) -/
def tMakeS (K : PySem.W.Frag) (C : Addr) (sp : Sp) (E : XK) (te : TE) : TE := fun σ H Q => te σ H fun y H1 => ∃ (a : Addr) (xs : List V), y = .ref a ∧ (SqT K H1 a xs ∨ SqL K H1 a xs) ∧ ∀ x dx, H1 x = none → H1 dx = none → dx ≠ x →
  sp (.ref x :: xs) (upd (upd H1 dx (.own x)) x (.ins C dx [])) (fun v H2 => v = .non ∧ Q (.ref x) H2) E
theorem pe_makeS (M : Mk X.K C f) (F : FnR X.prog X.w X.K X.mg X.base CX k f sp) (hr : Room (k + 1) X.A) (hg : Gl X x) (hm : X.mg x = some (.ref C)) (hx : Passes CX X E) (he : PE X e te) (hdb : (x == ("__debug__" : Str)) = false := by decide)
    (hst : starEach [.Starred e sps] X.env = [(true, eval e X.env)] := by rfl) : PE X (.Call (.Name x p) [.Starred e sps] [] pos) (tMakeS X.K C sp E te) := by
  refine ⟨fun pins s σ H Q I h => wpAny_Call_Name_kw (ld_glob I hg hm ?_ hdb)⟩
  refine PySem.W.callWith_S (h₀ := X.base) I.ok.mod.kin M.kp (thn (he.run pins s σ H _ I h) fun u s1 ⟨y, H1, I1, ry, q1⟩ => ?_) hst
  obtain ⟨a, xs, rfl, hxs, q⟩ := q1
  obtain rfl : u = Value.ref a := ry
  exact StX.star_any I1 hxs fun us s2 I2 rv => ⟨I2.kIn, StX.run_makeR M F hr hx I2 rv q⟩
/-- o op p by the own method, both of one class; what comes back is an object -/
def rBinO (C : Addr) (sp : Sp) (E : XK) : R2 := fun x y H Q => ∃ (a dx : Addr) (fs : List (Str × V)) (b dy : Addr) (gs : List (Str × V)), x = .ref a ∧ H a = some (.ins C dx fs) ∧ y = .ref b ∧ H b = some (.ins C dy gs) ∧ sp [x, y] H (fun v H' => (∃ t, v = .ref t) ∧ Q v H') E
theorem back_ref {pins : List (Addr × Obj)} {σ : L2.St} {Q : VK} {A' : Around} {us : List Value} {s : Shared} (h : wpAny (model X.prog X.w) A' (call (.ref g) us) (EP X pins σ fun v H' => (∃ t, v = .ref t) ∧ Q v H') X.xe s) : wpAny (model X.prog X.w) A' (call (.ref g) us) (PySem.W.CmpBack (EP X pins σ Q)) X.xe s := by
  refine wpAny_mono h (fun r s' hv => ?_) fun _ _ z => z
  obtain ⟨z, H', I', rz, ⟨t, rfl⟩, q'⟩ := hv
  obtain rfl : r = Value.ref t := rz
  exact ⟨.ref t, H', I', rfl, q'⟩
theorem op_binO {op : Operator} (m : OwnM X.K C (PySem.dunder op.info.2) g) (sf : PySem.W.selfFirst X.K C = true) (F : FnR X.prog X.w X.K X.mg X.base CX k g sp) (hr : Room k X.A) (hx : Passes CX X E) : OpR X (binaryOp op) (rBinO C sp E) := by
  intro pins s σ H x y v u Q I rx ry ⟨a, dx, fs, b, dy, gs, ex, e, ey, e2, q⟩
  subst ex ey
  obtain rfl : v = Value.ref a := rx
  obtain rfl : u = Value.ref b := ry
  obtain ⟨ox, od, J⟩ := ins_at I e
  obtain ⟨oy, oe, J2⟩ := ins_at I e2
  obtain ⟨m0, F0⟩ := I.fr
  exact PySem.W.binop_K F0 I.mod.kin J J2.type sf m.at_ m.fn (back_ref (run_at (us := [.ref a, .ref b]) (vs := [.ref a, .ref b]) F hr I.env0 hx I (.cons rfl (.cons rfl .nil)) q))
theorem pip_O {op : Operator} (m : OwnM X.K C (PySem.dunderI op.info.2) g) (sf : PySem.W.selfFirst X.K C = true) (F : FnR X.prog X.w X.K X.mg X.base CX k g sp) (hr : Room k X.A) (hx : Passes CX X E) : PIp X op (rBinO C sp E) := by
  intro pins s σ H x y v u Q I rx ry ⟨a, dx, fs, b, dy, gs, ex, e, ey, e2, q⟩
  subst ex ey
  obtain rfl : v = Value.ref a := rx
  obtain rfl : u = Value.ref b := ry
  obtain ⟨ox, od, J⟩ := ins_at I e
  obtain ⟨m0, F0⟩ := I.fr
  exact PySem.W.ksp_inplace F0 I.mod.kin J sf m.at_ m.fn (back_ref (run_at (us := [.ref a, .ref b]) (vs := [.ref a, .ref b]) F hr I.env0 hx I (.cons rfl (.cons rfl .nil)) q))
/-- bool(o) by the own method -/
theorem meets_boolO {prog : Program} {w : World} (l : Addr) : MeetsIn prog w (Builtin.«bool.__new__» ⟨[.type "bool", .ref l], []⟩) (fun A R s => wpAny (model prog w) A.in1 (truthy (.ref l)) (fun b s' => R (.ok (.ret (.bool b))) s') (fun e s' => R (.error e) s') s) :=
  .of_wp fun A R s h => by
    have f1 := PySem.F.conv_sub_bool
    obtain ⟨hp, g, d, tk, os⟩ := s
    unfold Builtin.«bool.__new__»
    generalize eT : truthy = T at h ⊢
    repeat (any_goals (first | wp_step | assumption))
    exact wpAny_mono h (fun b s' z => wpAny_pure ⟨_, rfl, z⟩) fun _ _ z => z
def rBoolO (C : Addr) (sp : Sp) (E : XK) : List V → Hp → VK → Prop := fun xs H Q => ∃ (a dx : Addr) (fs : List (Str × V)), xs = [.ref a] ∧ H a = some (.ins C dx fs) ∧ sp [.ref a] H (fun v H' => (∃ b, v = .bl b) ∧ Q v H') E
theorem call_boolO (m : OwnM X.K C "__bool__" g) (F : FnR X.prog X.w X.K X.mg X.base CX k g sp) (hr : Room (k + 2) X.A) (hx : Passes CX X E) : CallR X (.type "bool") (rBoolO C sp E) := by
  intro pins s σ H xs us Q I r ⟨a, dx, fs, ex, e, q⟩
  subst ex
  obtain ⟨u, rfl, ru⟩ := vals1 r
  obtain rfl : u = Value.ref a := ru
  obtain ⟨ox, od, J⟩ := ins_at I e
  obtain ⟨m0, F0⟩ := I.fr
  refine callType_newIn PySem.F.called_bool PySem.F.newNe_bool (PySem.F.typeCall_bool_1 _) (PySem.F.newCall_bool_1 _) (fun obj => PySem.F.args_object_init_2 obj _) PySem.F.entry_bool_new (meets_boolO a) ?_
  refine PySem.W.truthy_K F0 I.mod.kin J m.at_ m.fn (wpAny_mono (run_at (us := [.ref a]) (vs := [.ref a]) F hr.in1.in1 I.env0.in1.in1 hx I (.cons rfl .nil) q) (fun v s' hv => ?_) fun _ _ z => z)
  obtain ⟨z, H', I', rz, ⟨b, rfl⟩, q'⟩ := hv
  obtain rfl : v = Value.bool b := rz
  exact ⟨PySem.typeIs_bool s' b, .bl b, H', I', rfl, q'⟩
end
end L2.LqX


set_option Elab.async false
set_option linter.all false
set_option maxRecDepth 100000
set_option maxHeartbeats 4000000
/-! set(xs), xs a list or a tuple of ints -/
namespace L2.LqX
open PySem PySem.Spec PyProof.Rows L2
section
variable {prog : Program} {w : World} {A : Around} {E : Value → Shared → Prop} {s : Shared}
abbrev newSetW (w : World) : Obj := { cls := .type "set", dict := none, data := .set #[] 0 (.fresh 0 0 (!w.params.followText "set-order")) }
theorem set_of_ints {l : Addr} {its : Array Value} {zs : List Int} {Q : Value → Shared → Prop}
    (calm : A.handled = none) (hl : s.heap.IsList l its) (hi : IntsAre its.toList zs) (room : zs.length + 1 < scanBound)
    (h : ∀ (h2 : Heap) (tk c : Nat), SetR w h2 s.heap.objs.size (fun j => decide (j ∈ zs)) c → c ≤ zs.length →
      (∀ d o, s.heap.get? d = some o → h2.get? d = some o) → Q (.ref s.heap.objs.size) { s with heap := h2, toks := tk }) :
    wpAny (model prog w) A (call (.type "set") [.ref l]) Q E s := by
  have few : its.size = zs.length := by rw [← IntsAre.length hi, Array.length_toList]
  obtain ⟨c0, tl0, hmro0⟩ := PySem.F.called_set.mro
  have made0 := PySem.F.called_set.made
  have sub0 := PySem.F.called_set.sub
  refine wpAny_call (codeAny_of_tree (show wpAny _ _ (callAny (.type "set") _) _ _ _ from ?_))
  refine wpAny_pure ⟨Code.quiet_builtin _ (by decide +kernel), codeAny_builtin PySem.F.entry_type_call (?_ : wpAny _ _ _ _ _ _)⟩
  rw [Around.under_plain (weight_type_call_type "set" [Value.ref l] []) rfl]
  have nt0 := PySem.F.called_set.notType
  have cc0 := PySem.F.called_set.canCreate
  have tc0 := PySem.F.typeCall_set_1 (.ref l)
  repeat (any_goals (first | wp_step | assumption))
  refine codeAny_mono (code_set_led1 (.ref l) (E := E) (Q₁ := fun ob s1 => ob = .ref s.heap.objs.size ∧ s1 = { s with heap := s.heap.push (newSetW w) }) ⟨rfl, rfl⟩) fun rs s1 hr => ?_
  match rs, hr with
  | .error e, hr => exact hr
  | .ok (.ret ob), hr =>
    obtain ⟨rfl, rfl⟩ := hr
    have gS : (s.heap.push (newSetW w)).get? s.heap.objs.size = some (newSetW w) := Heap.get?_push_size _ rfl
    have tS : Shared.TypeIs { s with heap := s.heap.push (newSetW w) } (.ref s.heap.objs.size) "set" := ⟨_, gS, rfl⟩
    have li0 := PySem.F.called_set.init.lookup
    have bi0 := PySem.F.called_set.init.bind (.ref s.heap.objs.size)
    repeat (any_goals (first | wp_step | assumption))
    refine codeAny_mono (codeAny_call_builtin (R := wants (fun v s2 => v = .none ∧ ∃ h2 tk c, s2 = { s with heap := h2, toks := tk } ∧ SetR w h2 s.heap.objs.size (fun j => decide (j ∈ zs)) c ∧ c ≤ zs.length ∧
        (∀ d o, s.heap.get? d = some o → h2.get? d = some o)) E) PySem.F.called_set.init.plain PySem.F.entry_set_init (check_set_init_1 tS ?_)) fun rs2 s2 hr2 => ?_
    · obtain ⟨⟨cl0, dc0, da0, sl0⟩, gl, ecl, nl, edl⟩ := hl
      simp only at ecl edl
      subst ecl; subst edl
      have gl2 : (s.heap.push (newSetW w)).get? l = some { cls := .type "list", dict := dc0, data := .seq its nl, slots := sl0 } := Heap.get?_push_of_some _ gl
      have ls0 := PySem.F.sub_list_set
      have lf0 := PySem.F.sub_list_frozenset
      have ne0 : (Value.type "list" == Value.type "dict") = false := by decide
      have il2 : (s.heap.push (newSetW w)).IsList l its := ⟨_, gl2, rfl, nl, rfl⟩
      unfold Builtin.«set.__init__» Builtin.Frozenset.updateFrom noKeywords
      generalize ePI : pyIter = PI
      wp_walk
      subst ePI
      refine wpAny_pyIter_list il2 (wpAny_bind (wpAny_runValue ?_))
      have lS : l < s.heap.objs.size := Heap.lt_size gl
      have calm3 : A.in1.in1.in1.handled = none := by simp [calm]
      have neI : l ≠ (s.heap.push (newSetW w)).objs.size := by
        rw [Heap.size_push]
        exact Nat.ne_of_lt (Nat.lt_add_right 1 lS)
      have outS : s.heap.objs.size ∉ [(s.heap.push (newSetW w)).objs.size, l] := by
        rw [Heap.size_push]
        simp only [List.mem_cons, List.not_mem_nil, or_false, not_or]
        exact ⟨Nat.ne_of_lt (Nat.lt_add_one _), Nat.ne_of_gt lS⟩
      have tells : ∀ (j : Nat) (v : Value), its[j]? = some v → ∃ q t, zs[j]? = some q ∧ v = .int q t := fun j v hv => by
        obtain ⟨t, e⟩ := IntsAre.int_at hi j v (by rw [Array.getElem?_toList]; exact hv)
        have hj : j < zs.length := by
          rw [← few]
          exact (Array.getElem?_eq_some_iff.mp hv).1
        rw [List.getD_eq_getElem?_getD, List.getElem?_eq_getElem hj] at e
        exact ⟨zs[j], t, List.getElem?_eq_getElem hj, e⟩
      refine set_update_ints ((Walks.list calm3 _ l neI its).toS) s.heap.objs.size outS zs few room tells (its.size - 0) 0 _ (by omega) (Nat.zero_le _)
        ⟨⟨_, Heap.get?_push_size _ rfl, rfl, rfl⟩, il2.push _⟩ ?_ fun s3 c3 mv hc3 hS3 => ?_
      · have g3 : ((s.heap.push (newSetW w)).push { cls := .type "list_iterator", data := .fields #[.ref l, .int 0 0] }).get? s.heap.objs.size = some (newSetW w) := Heap.get?_push_of_some _ gS
        exact ⟨0, Nat.le_refl 0, setR_new_at g3⟩
      · obtain ⟨h3, gn3, dr3, tk3, os3⟩ := s3
        obtain rfl : gn3 = s.gens := mv.gens
        obtain rfl : dr3 = s.drawn := mv.drawn
        obtain rfl : os3 = s.os := mv.os
        rw [few] at hc3
        refine wpAny_pure (show wpAny _ _ (ret Value.none) _ _ _ from wpAny_pure ⟨rfl, h3, tk3, c3, rfl, hS3, hc3, fun d o q => ?_⟩)
        have hd := Heap.lt_size q
        refine mv.heap d o ?_ (Heap.get?_push_of_some _ (Heap.get?_push_of_some _ q))
        rw [Heap.size_push]
        simp only [List.mem_cons, List.not_mem_nil, or_false, not_or]
        exact ⟨Nat.ne_of_lt hd, Nat.ne_of_lt (Nat.lt_add_right 1 hd)⟩
    · match rs2, hr2 with
      | .error e, hr2 => exact hr2
      | .ok (.ret v), hr2 =>
        obtain ⟨rfl, h2, tk, c, rfl, hS2, hc, keeps⟩ := hr2
        repeat (any_goals (first | wp_step | assumption))
        exact h _ _ _ hS2 hc keeps
end
/-- set(xs) -/
def rSetI (K : PySem.W.Frag) (w : World) : List V → Hp → VK → Prop := fun xs H Q => ∃ (l : Addr) (zs : List Int), xs = [.ref l] ∧ (SqL K H l (zs.map V.int) ∨ SqT K H l (zs.map V.int)) ∧ zs.length ≤ 60 ∧
  ∀ (a : Addr) (n : Nat), H a = none → n ≤ zs.length → Q (.ref a) (upd H a (SetO w a (fun j => decide (j ∈ zs)) n))
theorem cr_setI {X : Cx} (hc : X.calm = true) : CallR X (.type "set") (rSetI X.K X.w) := by
  intro pins s σ H xs us Q I r h
  obtain ⟨l, zs, rfl, hq, few, q⟩ := h
  rw [Vals.ref1 r]
  have nw : H s.heap.objs.size = none := I.hok.fresh (Nat.le_refl _)
  have rm : zs.length + 1 < scanBound := by unfold scanBound; omega
  have fin : ∀ (h2 : Heap) (tk c : Nat), SetR X.w h2 s.heap.objs.size (fun j => decide (j ∈ zs)) c → c ≤ zs.length → (∀ d o, s.heap.get? d = some o → h2.get? d = some o) → EP X pins σ Q (.ref s.heap.objs.size) { s with heap := h2, toks := tk } := fun h2 tk c hS hc hk =>
    ⟨.ref s.heap.objs.size, upd H s.heap.objs.size (SetO X.w s.heap.objs.size (fun j => decide (j ∈ zs)) c), I.laid (t' := tk) hk (Nat.le_refl _) (setO_new hS), rfl, q _ c nw hc⟩
  rcases hq with hq | hq
  · obtain ⟨its, rv, pl, _⟩ := I.list hq
    exact set_of_ints (I.ok.hd hc) pl.isList (by simpa using rv.ints) rm fin
  · obtain ⟨its, rv, pl, _⟩ := I.tuple hq
    exact call_set_tupI zs (I.ok.hd hc) (show s.heap.IsTuple l its.toArray from pl) (by simpa using rv.ints) rm fin
end L2.LqX


set_option Elab.async false
set_option linter.all false
set_option maxRecDepth 100000
set_option maxHeartbeats 4000000
namespace L2.LqX
open PySem PySem.Spec PyProof.Rows L2
/-- bool(t), t a tuple -/
theorem call_boolT {X : Cx} : CallR X (.type "bool") (fun xs H Q => ∃ (a : Addr) (zs : List V), xs = [.ref a] ∧ SqT X.K H a zs ∧ Q (.bl (!zs.isEmpty)) H) := by
  intro pins s σ H xs us Q I r h
  obtain ⟨a, zs, rfl, hq, q⟩ := h
  rw [Vals.ref1 r]
  obtain ⟨its, rv, ⟨ot, et, ct, nt, dt⟩, hz⟩ := I.tuple hq
  have hl := line63
  have hlen := rv.length
  refine callType_newIn PySem.F.called_bool PySem.F.newNe_bool (PySem.F.typeCall_bool_1 _) (PySem.F.newCall_bool_1 _) (fun obj => PySem.F.args_object_init_2 obj _) PySem.F.entry_bool_new (meets_boolO a) ?_
  refine PyProof.Rows.truthy_tuple (items := its.toArray) ⟨ot, et, ct, nt, dt⟩ (by simp only [List.size_toArray]; omega) ?_
  exact ⟨PySem.typeIs_bool _ _, .bl (!zs.isEmpty), H, I.tok _, by rw [isEmpty_of rv]; rfl, q⟩
end L2.LqX


set_option Elab.async false
set_option linter.all false
set_option maxRecDepth 100000
set_option maxHeartbeats 4000000
namespace Lq
open PySem L2 L2.LqX
/-! strictly ascending -/
def insS (z : Int) : List Int → List Int
  | [] => [z]
  | y :: r => if z < y then z :: y :: r else if z = y then y :: r else y :: insS z r
def asc (zs : List Int) : List Int := zs.foldr insS []
theorem mem_insS {z x : Int} : ∀ {l : List Int}, x ∈ insS z l ↔ x = z ∨ x ∈ l
  | [] => by simp [insS]
  | y :: r => by
    unfold insS
    split
    · simp
    · split
      · rename_i e
        subst e
        simp
      · rw [List.mem_cons, mem_insS (l := r), List.mem_cons]
        constructor
        · rintro (h | h | h)
          · exact .inr (.inl h)
          · exact .inl h
          · exact .inr (.inr h)
        · rintro (h | h | h)
          · exact .inr (.inl h)
          · exact .inl h
          · exact .inr (.inr h)
theorem pw_insS {z : Int} : ∀ {l : List Int}, l.Pairwise (· < ·) → (insS z l).Pairwise (· < ·)
  | [], _ => by simp [insS]
  | y :: r, h => by
    rw [List.pairwise_cons] at h
    unfold insS
    split
    · rename_i hz
      exact List.pairwise_cons.mpr ⟨fun q hq => by
        rcases List.mem_cons.mp hq with rfl | hq
        · exact hz
        · exact Int.lt_trans hz (h.1 q hq), List.pairwise_cons.mpr h⟩
    · split
      · exact List.pairwise_cons.mpr h
      · rename_i h1 h2
        refine List.pairwise_cons.mpr ⟨fun q hq => ?_, pw_insS h.2⟩
        rcases mem_insS.mp hq with rfl | hq
        · omega
        · exact h.1 q hq
theorem mem_asc {x : Int} : ∀ {zs : List Int}, x ∈ asc zs ↔ x ∈ zs
  | [] => by simp [asc]
  | z :: r => by
    show x ∈ insS z (asc r) ↔ _
    rw [mem_insS, mem_asc (zs := r), List.mem_cons]
theorem pw_asc : ∀ zs : List Int, (asc zs).Pairwise (· < ·)
  | [] => .nil
  | z :: r => pw_insS (pw_asc r)
theorem pw_uniq : ∀ {a b : List Int}, a.Pairwise (· < ·) → b.Pairwise (· < ·) → (∀ x, x ∈ a ↔ x ∈ b) → a = b
  | [], [], _, _, _ => rfl
  | [], y :: b, _, _, h => by have := (h y).mpr (List.mem_cons_self ..); cases this
  | x :: a, [], _, _, h => by have := (h x).mp (List.mem_cons_self ..); cases this
  | x :: a, y :: b, ha, hb, h => by
    rw [List.pairwise_cons] at ha hb
    have e : x = y := by
      rcases List.mem_cons.mp ((h x).mp (List.mem_cons_self ..)) with e | e
      · exact e
      · rcases List.mem_cons.mp ((h y).mpr (List.mem_cons_self ..)) with e' | e'
        · exact e'.symm
        · have h1 := hb.1 x e
          have h2 := ha.1 y e'
          omega
    subst e
    congr 1
    refine pw_uniq ha.2 hb.2 fun z => ?_
    constructor
    · intro hz
      rcases List.mem_cons.mp ((h z).mp (List.mem_cons_of_mem _ hz)) with e | e
      · have := ha.1 z hz
        omega
      · exact e
    · intro hz
      rcases List.mem_cons.mp ((h z).mpr (List.mem_cons_of_mem _ hz)) with e | e
      · have := hb.1 z hz
        omega
      · exact e
theorem asc_eq {a b : List Int} (h : ∀ x, x ∈ a ↔ x ∈ b) : asc a = asc b := pw_uniq (pw_asc a) (pw_asc b) fun x => by rw [mem_asc, mem_asc]; exact h x
theorem asc_id {a : List Int} (h : a.Pairwise (· < ·)) : asc a = a := pw_uniq (pw_asc a) h fun x => mem_asc
theorem len_insS {z : Int} : ∀ l : List Int, (insS z l).length ≤ l.length + 1
  | [] => Nat.le_refl _
  | y :: r => by
    unfold insS
    split
    · exact Nat.le_refl _
    · split
      · exact Nat.le_succ _
      · exact Nat.succ_le_succ (len_insS r)
theorem len_asc : ∀ zs : List Int, (asc zs).length ≤ zs.length
  | [] => Nat.le_refl _
  | z :: r => Nat.le_trans (len_insS (asc r)) (Nat.succ_le_succ (len_asc r))
/-! data -/
theorem dp_ints {K : PySem.W.Frag} {H : Hp} : ∀ l : List Int, DpAll K H (l.map V.int) (l.map PyData.int)
  | [] => .nil
  | x :: l => .cons (.int x) (dp_ints l)
theorem lay_ints : ∀ l : List Int, PyData.canLayAll0 (l.map PyData.int) = true
  | [] => rfl
  | x :: l => by
    rw [List.map_cons]
    simp only [PyData.canLayAll0, PyData.canLay0, lay_ints l]
    rfl
theorem depth_ints : ∀ l : List Int, PyData.depthAll (l.map PyData.int) = 0
  | [] => rfl
  | x :: l => by
    rw [List.map_cons]
    simp only [PyData.depthAll, PyData.depth, depth_ints l]
    rfl
theorem sh_tup (l : List Int) : SeqAt.shaped (.tuple (l.map PyData.int)) = true := by
  unfold SeqAt.shaped
  simp only [PyData.canLay0, PyData.depth, lay_ints, depth_ints]
  rfl
theorem sh_lst (l : List Int) : SeqAt.shaped (.list (l.map PyData.int)) = true := by
  unfold SeqAt.shaped
  simp only [PyData.canLay0, PyData.depth, lay_ints, depth_ints]
  rfl
theorem eqv_ints : ∀ a b : List Int, PyData.eqvAll (a.map PyData.int) (b.map PyData.int) = decide (a = b)
  | [], [] => by simp [PyData.eqvAll]
  | [], y :: b => by simp [PyData.eqvAll]
  | x :: a, [] => by simp [PyData.eqvAll]
  | x :: a, y :: b => by
    rw [List.map_cons, List.map_cons]
    simp only [PyData.eqvAll, PyData.eqv, eqv_ints a b]
    by_cases h : x = y
    · subst h
      simp
    · simp [h]
theorem eqv_tup (a b : List Int) : PyData.eqv (.tuple (a.map PyData.int)) (.tuple (b.map PyData.int)) = decide (a = b) := by
  simp only [PyData.eqv, eqv_ints]
theorem eqv_lst (a b : List Int) : PyData.eqv (.list (a.map PyData.int)) (.list (b.map PyData.int)) = decide (a = b) := by
  simp only [PyData.eqv, eqv_ints]
theorem if_no {b : Bool} {p q : Prop} (h : b = false) (k : q) : if b = true then p else q := by
  rw [h]
  exact k
theorem ne_no {x y : V} (h : x = y) : (!decide (x = y)) = false := by
  rw [decide_eq_true h]
  rfl
theorem inV_ints (x : Int) (l : List Int) : inV (.int x) (l.map V.int) = l.contains x := by
  induction l with
  | nil => rfl
  | cons y l ih =>
    rw [List.map_cons, List.contains_cons]
    show (eqV (.int y) (.int x) || inV (.int x) (l.map V.int)) = _
    rw [ih]
    congr 1
    show decide (y = x) = (x == y)
    by_cases e : y = x
    · rw [e]
      simp
    · have e' : ¬ x = y := fun z => e z.symm
      rw [decide_eq_false e, beq_eq_false_iff_ne.mpr e']
theorem flat_ints (l : List Int) : (l.map V.int).all flatV = true := by
  rw [List.all_map, List.all_eq_true]
  intro x _
  rfl
/-! texts of numbers -/
def Sm (z : Int) : Prop := z.natAbs < 10 ^ 30
theorem Sm.log {z : Int} (h : Sm z) : z.natAbs.log2 < 1920 := by
  by_cases e : z.natAbs = 0
  · rw [e]
    decide
  · exact (Nat.log2_lt e).mpr (Nat.lt_of_lt_of_le (Nat.lt_trans h (by decide : 10 ^ 30 < 2 ^ 100)) (Nat.pow_le_pow_right (by decide) (by decide)))
def numS (z : Int) : Str := toString z
theorem len_num {z : Int} (h : Sm z) : (numS z).length ≤ 31 := by
  have := PySem.int_text_length_le10 (a := z) (k := 30) (by decide) h
  have e : (numS z).length = (toString z).length := PySem.ofString_length _
  omega
def rowTx (zs : List Int) : Str := Txt.join ", " (zs.map numS)
theorem sum_num : ∀ {zs : List Int}, (∀ z ∈ zs, Sm z) → ((zs.map numS).map (·.length)).sum ≤ zs.length * 31
  | [], _ => Nat.le_refl _
  | z :: r, h => by
    have h1 := len_num (h z List.mem_cons_self)
    have h2 := sum_num (zs := r) fun x hx => h x (List.mem_cons_of_mem _ hx)
    simp only [List.map_cons, List.sum_cons, List.length_cons]
    omega
end Lq


set_option Elab.async false
set_option linter.all false
set_option maxRecDepth 100000
set_option maxHeartbeats 4000000
namespace Lq
open PySem L2 L2.LqX
abbrev sIsI : Stmt := topS 1
abbrev sMend : Stmt := topS 3
abbrev sOrdered : Stmt := topS 4
abbrev sRowsTx : Stmt := topS 5
abbrev sInit : Stmt := inClass sMend 0
abbrev sLen : Stmt := inClass sMend 1
abbrev sBool : Stmt := inClass sMend 2
abbrev sIn : Stmt := inClass sMend 3
abbrev sOr : Stmt := inClass sMend 4
abbrev sAnd : Stmt := inClass sMend 5
abbrev sIor : Stmt := inClass sMend 6
abbrev sEq : Stmt := inClass sMend 7
abbrev sStr : Stmt := inClass sMend 8
/-- what is known of the class -/
structure MdF (K : PySem.W.Frag) (mg : Str → Option Value) (C : Addr) : Prop where
  g : mg "Mend" = some (.ref C)
  cl : Cls K C
  nR : NoAttr K C "rows"
  ca : PySem.W.findIn K (.ref C) "__class__" = some (some (.builtin "object.__class__"))
  cg : PySem.W.specialIn K (.builtin "object.__class__") "__get__" = some (some (.builtin "getset_descriptor.__get__"))
  ct : PySem.W.takesIn K (.builtin "object.__class__") = some true
  cm : PySem.W.mroIn K C (.type "object") = some true
  ck : PySem.W.kitOne K (.ref C) (.ref C) = some true
  sf : PySem.W.selfFirst K C = true
def IsMd (C : Addr) (H : Hp) (a : Addr) (rs : List Int) : Prop := ∃ dx t, H a = some (.ins C dx [("rows", .ref t)]) ∧ H t = some (.tup (rs.map V.int))
theorem IsMd.same {C : Addr} {H H' : Hp} {a : Addr} {rs : List Int} (h : IsMd C H a rs) (e : Same H H') : IsMd C H' a rs := by
  obtain ⟨dx, t, h1, h2⟩ := h
  exact ⟨dx, t, e _ _ h1, e _ _ h2⟩
/-- all but a stays -/
def But (a : Addr) (H H' : Hp) : Prop := ∀ p o, H p = some o → p ≠ a → H' p = some o
theorem IsMd.but {C : Addr} {H H' : Hp} {a b : Addr} {rs : List Int} (h : IsMd C H a rs) (e : But b H H') (n : a ≠ b) (hb : ∀ us, H b ≠ some (.tup us)) : IsMd C H' a rs := by
  obtain ⟨dx, t, h1, h2⟩ := h
  exact ⟨dx, t, e _ _ h1 n, e _ _ h2 fun z => hb _ (by rw [← z]; exact h2)⟩
/-! is_integer -/
def spIsI (K : PySem.W.Frag) : Sp := fun vs H Q _ => ∃ (v : V) (tn : String) (bi bb : Bool), vs = [v] ∧ TyX K H v (.type tn) ∧ kitB tn "int" = some bi ∧ kitB tn "bool" = some bb ∧ Q (.bl (bi && !bb)) H
section
variable {P : Program} {w : World} {K : PySem.W.Frag} {mg : Str → Option Value} {base : Heap}
theorem scIsI : FnScope ["thing"] ["thing"] (defScope sIsI) := ⟨rfl, rfl, rfl, by decide +kernel, rfl, by decide +kernel, by decide +kernel⟩
theorem ok_isI {f : Addr} {fd : FuncData} (F : Fun K "is_integer" "is_integer" sIsI f fd) (hii : mg "isinstance" = none) (hint : mg "int" = none) (hbool : mg "bool" = none) : FnOk P w K mg base CX0 1 f fd ["thing"] (spIsI K) := by
  refine F.ok scIsI (fun vs H Q E h => ?_) (fun cdv A outer s H vs Q E hr h => ?_)
  · obtain ⟨v, _, _, _, rfl, _⟩ := h
    rfl
  · obtain ⟨v, tn, bi, bb, rfl, ty, k1, k2, k⟩ := h
    refine ⟨_, pss_one (ps_ret (pe_and (pe_callB call_isi (by rfl) hii PyProof.Rows.boot_isinstance (pa_cons (pv 0) (pa_cons (pe_bltn (by rfl) hint PyProof.Rows.boot_int (v := .ty "int") rfl) pa_nil))) (pe_one (pe_not (pe_callB call_isi (by rfl) hii PyProof.Rows.boot_isinstance (pa_cons (pv 0) (pa_cons (pe_bltn (by rfl) hbool PyProof.Rows.boot_bool (v := .ty "bool") rfl) pa_nil))))))), ?_⟩
    refine ⟨v, rfl, v, .ty "int", _, _, bi, rfl, .ty _, ty, kit_ty k1, bi, rfl, ?_⟩
    cases bi with
    | false => exact iteF k
    | true => exact iteT ⟨v, rfl, v, .ty "bool", _, _, bb, rfl, .ty _, ty, kit_ty k2, bb, rfl, k⟩
/-! ordered(rows), rows_text(rows) -/
def spOrd (K : PySem.W.Frag) : Sp := fun vs H Q _ => ∃ (t : Addr) (zs : List Int), vs = [.ref t] ∧ SqT K H t (zs.map V.int) ∧ zs.length ≤ 60 ∧ ∀ (p : Addr) (H' : Hp), Same H H' → H p = none → H' p = some (.tup ((asc zs).map V.int)) → Q (.ref p) H'
theorem scOrd : FnScope ["rows"] ["rows"] (defScope sOrdered) := ⟨rfl, rfl, rfl, by decide +kernel, rfl, by decide +kernel, by decide +kernel⟩
theorem ok_ord {f : Addr} {fd : FuncData} (F : Fun K "ordered" "ordered" sOrdered f fd) (htu : mg "tuple" = none) (hso : mg "sorted" = none) (hse : mg "set" = none) : FnOk P w K mg base CX0 1 f fd ["rows"] (spOrd K) := by
  refine F.ok scOrd (fun vs H Q E h => ?_) (fun cdv A outer s H vs Q E hr h => ?_)
  · obtain ⟨_, _, rfl, _⟩ := h
    rfl
  · obtain ⟨t, zs, rfl, ht, hl, k⟩ := h
    refine ⟨_, pss_one (ps_ret (pe_callTy call_tuple_of (by rfl) htu PyProof.Rows.boot_tuple (pa_cons (pe_callB (cr_sortedSet rfl) (by rfl) hso PyProof.Rows.boot_sorted (pa_cons (pe_callTy (cr_setI rfl) (by rfl) hse PyProof.Rows.boot_set (pa_cons (pv 0) pa_nil)) pa_nil)) pa_nil))), ?_⟩
    refine ⟨_, rfl, t, zs, rfl, .inr ht, hl, fun a n na hn => ⟨a, _, n, rfl, upd_same, by omega, fun ns p pw mem ln np => ⟨p, _, rfl, .inl ⟨SqL.of upd_same, fun l nl => ?_⟩⟩⟩⟩
    have e : ns = asc zs := pw_uniq pw (pw_asc zs) fun x => by
      rw [mem x, mem_asc]
      exact decide_eq_true_iff
    subst e
    exact k l _ ((same_new na).trans ((same_new np).trans (same_new nl))) ((same_new na).free ((same_new np).free nl)) upd_same
def spRtx (K : PySem.W.Frag) : Sp := fun vs H Q _ => ∃ (t : Addr) (zs : List Int), vs = [.ref t] ∧ SqT K H t (zs.map V.int) ∧ zs.length ≤ 60 ∧ (∀ z ∈ zs, Sm z) ∧ ∀ H', Same H H' → Q (.str (rowTx zs)) H'
theorem scRtx : FnScope ["rows", "row"] ["rows"] (defScope sRowsTx) := ⟨rfl, rfl, rfl, by decide +kernel, rfl, by decide +kernel, by decide +kernel⟩
theorem sqt_same {H H' : Hp} {q : Addr} {xs : List V} (e : Same H H') (h : SqT K H q xs) : SqT K H' q xs := by
  rcases h with (h | ⟨o, h⟩) | h
  · exact .inl (.inl (e _ _ h))
  · exact .inl (.inr ⟨o, e _ _ h⟩)
  · exact .inr h
theorem ok_rtx {f : Addr} {fd : FuncData} (F : Fun K "rows_text" "rows_text" sRowsTx f fd) (hst : mg "str" = none) : FnOk P w K mg base CX0 1 f fd ["rows"] (spRtx K) := by
  refine F.ok scRtx (fun vs H Q E h => ?_) (fun cdv A outer s H vs Q E hr h => ?_)
  · obtain ⟨_, _, rfl, _⟩ := h
    rfl
  · obtain ⟨t, zs, rfl, ht, hl, hs, k⟩ := h
    refine ⟨_, pss_one (ps_ret (pe_join pe_str (pe_lc (own := [("row", 1)]) (g := gName 1) (tt := tYes) rfl scRtx.nd (pi_tup (pv 0)) (blkOk_by (own := [("row", 1)]) (N := ["rows", "row"]) (sc := defScope sRowsTx) (by decide +kernel))
      (fun _ _ _ _ _ => pg_name (i := 1) scRtx.nd rfl (Or.inl rfl)) (fun _ _ _ _ _ => pts_nil) (fun _ _ _ _ _ => pe_callTy call_str_int (by rfl) hst PyProof.Rows.boot_str (pa_cons (pv 1) pa_nil))))), ?_⟩
    refine ⟨⟨_, rfl⟩, _, rfl, t, rfl, ⟨_, ht⟩, fun D nD => ?_⟩
    refine loop_it (walk_tup (K := K) (a := t) (xs := zs.map V.int)) (fun i H3 => H3 D = some (.lst (((zs.take i).map numS).map V.str)) ∧ Same H H3) ⟨upd_same, same_new nD⟩ (fun i H3 _ z => sqt_same z.2 ht) ?_ ?_
    · rintro i v H3 H4 hi ⟨hD, s3⟩ ⟨rfl, hv⟩
      rw [List.getElem?_map] at hv
      obtain ⟨z, hz, rfl⟩ := Option.map_eq_some_iff.mp hv
      have li : i < zs.length := (List.getElem?_eq_some_iff.mp hz).1
      refine ⟨rfl, _, rfl, z, rfl, (hs z (List.mem_of_getElem? hz)).log, _, hD, ?_, ?_, fun b o q => ?_⟩
      · rw [List.length_map, List.length_map, List.length_take, sizeLine_eq]
        omega
      · rw [upd_same, List.take_add_one, hz, Option.toList_some, List.map_append, List.map_append]
        rfl
      · rw [upd_ne (ne_of_none q nD)]
        exact s3 _ _ q
    · rintro H3 ⟨hD, s3⟩
      rw [List.length_map, List.take_length] at hD
      refine ⟨", ", D, zs.map numS, rfl, rfl, .inl (SqL.of hD), ?_, k _ s3⟩
      have h1 := sum_num hs
      have h2 : (", " : Str).length = 2 := by decide +kernel
      rw [List.length_map, h2]
      omega
/-! Mend -/
/-- __init__(self, *rows) -/
def spMk (C : Addr) : Sp := fun vs H Q _ => ∃ (x dx : Addr) (zs : List Int), vs = .ref x :: zs.map V.int ∧ H x = some (.ins C dx []) ∧ zs.length ≤ 60 ∧ ∀ H', IsMd C H' x (asc zs) → But x H H' → Q .non H'
def spIni (C : Addr) : Sp := fun vs H Q _ => ∃ (x dx t : Addr) (zs : List Int), vs = [.ref x, .ref t] ∧ H x = some (.ins C dx []) ∧ H t = some (.tup (zs.map V.int)) ∧ zs.length ≤ 60 ∧ ∀ H', IsMd C H' x (asc zs) → But x H H' → Q .non H'
theorem scIni : FnScope ["self", "rows"] ([("self" : Str)] ++ [("rows" : Str)]) (defScope sInit) := ⟨rfl, rfl, rfl, by decide +kernel, rfl, by decide +kernel, by decide +kernel⟩
theorem ok_mk {f fO C : Addr} {fd fdO : FuncData} (F : Fun K "__init__" "Mend.__init__" sInit f fd) (T : MdF K mg C) (GO : FnOk P w K mg base CX0 1 fO fdO ["rows"] (spOrd K)) (bO : Binds K fdO ["rows"] []) (kO : PySem.W.keepIn K (.ref fO) = true) (mO : mg "ordered" = some (.ref fO)) : FnR P w K mg base CX0 2 f (spMk C) := by
  obtain ⟨oc, od, kV, doc, pm, an, cdv, ct, osl, e, lk, hcd⟩ := F.ex
  subst e
  have G := StX.fn_star (P := P) (w := w) (mg := mg) (base := base) (CX := CX0) (k := 1) (N := ["self", "rows"]) (ps := ["self"]) (pv := "rows") (sp := spIni C) lk hcd scIni StX.cxUp_none (StX.bind_star1 (B := fun us => bindArgs (PySem.W.fnOf "__init__" "Mend.__init__" (defArgs sInit) (defBody sInit) (defScope sInit) .none kV doc pm an cdv ct) ⟨us, []⟩) (p1 := "self") (pv := "rows") (fun _ => rfl) (fun _ _ _ => rfl)) (fun A outer s H vs Q E hr h => ?_)
  · refine G.imp fun vs H Q E h => ?_
    obtain ⟨x, dx, zs, rfl, hx, hl, k⟩ := h
    refine ⟨[.ref x], zs.map V.int, rfl, rfl, by rw [List.length_map, sizeLine_eq]; omega, fun p np => ?_⟩
    refine ⟨x, dx, p, zs, rfl, same_new np _ _ hx, upd_same, hl, fun H' hm kp => k H' hm fun q o z n => kp q o (same_new np _ _ z) n⟩
  · obtain ⟨x, dx, t, zs, rfl, hx, ht, hl, k⟩ := h
    refine ⟨_, pss_one (ps_fld (pv 0) (pe_call GO hr (by rfl) mO kO bO .nil pass0 (pa_cons (pv 1) pa_nil)) rfl), ?_⟩
    refine ⟨_, rfl, t, zs, rfl, SqT.of ht, hl, fun p H1 s1 np hp => ⟨_, rfl, x, C, dx, _, rfl, s1 _ _ hx, T.cl, T.nR, by decide, ?_⟩⟩
    refine k _ ⟨dx, p, upd_same, ?_⟩ fun q o z n => ?_
    · rw [upd_ne (fun z => by rw [z, hx] at np; cases np)]
      exact hp
    · rw [upd_ne n]
      exact s1 _ _ z
end
end Lq


set_option Elab.async false
set_option linter.all false
set_option maxRecDepth 100000
set_option maxHeartbeats 4000000
namespace Lq
open PySem L2 L2.LqX
def spLen (C : Addr) : Sp := fun vs H Q _ => ∃ (a : Addr) (rs : List Int), vs = [.ref a] ∧ IsMd C H a rs ∧ Q (.int (rs.length : Nat)) H
def spBool (C : Addr) : Sp := fun vs H Q _ => ∃ (a : Addr) (rs : List Int), vs = [.ref a] ∧ IsMd C H a rs ∧ Q (.bl (!rs.isEmpty)) H
/-- x in mend -/
def spIn (K : PySem.W.Frag) (C : Addr) : Sp := fun vs H Q _ => ∃ (a : Addr) (rs : List Int) (v : V), vs = [.ref a, v] ∧ IsMd C H a rs ∧ ((∃ z, v = .int z ∧ Q (.bl (rs.contains z)) H) ∨ ∃ (tn : String) (bi bb : Bool), TyX K H v (.type tn) ∧ kitB tn "int" = some bi ∧ kitB tn "bool" = some bb ∧ (bi && !bb) = false ∧ Q (.bl false) H)
def spOr (C : Addr) : Sp := fun vs H Q _ => ∃ (a b : Addr) (rs qs : List Int), vs = [.ref a, .ref b] ∧ IsMd C H a rs ∧ IsMd C H b qs ∧ rs.length + qs.length ≤ 60 ∧ ∀ (x : Addr) (H' : Hp), Same H H' → H x = none → IsMd C H' x (asc (rs ++ qs)) → Q (.ref x) H'
def spAnd (C : Addr) : Sp := fun vs H Q _ => ∃ (a b : Addr) (rs qs : List Int), vs = [.ref a, .ref b] ∧ IsMd C H a rs ∧ IsMd C H b qs ∧ rs.length ≤ 60 ∧ ∀ (x : Addr) (H' : Hp), Same H H' → H x = none → IsMd C H' x (asc (rs.filter fun z => qs.contains z)) → Q (.ref x) H'
def spIor (C : Addr) : Sp := fun vs H Q _ => ∃ (a b : Addr) (rs qs : List Int), vs = [.ref a, .ref b] ∧ IsMd C H a rs ∧ IsMd C H b qs ∧ rs.length + qs.length ≤ 60 ∧ ∀ (H' : Hp), But a H H' → IsMd C H' a (asc (rs ++ qs)) → Q (.ref a) H'
def spEq (K : PySem.W.Frag) (C : Addr) : Sp := fun vs H Q _ => ∃ (a : Addr) (rs : List Int) (v : V), vs = [.ref a, v] ∧ IsMd C H a rs ∧ ((∃ (b : Addr) (qs : List Int), v = .ref b ∧ IsMd C H b qs ∧ Q (.bl (decide (rs = qs))) H) ∨ ∃ tn : String, TyX K H v (.type tn) ∧ PySem.W.kitOne K (.type tn) (.ref C) = some false ∧ Q (.bl false) H)
def mdTx (rs : List Int) : Str := if rs = [] then "no rows" else "rows " ++ rowTx rs
def spStr (C : Addr) : Sp := fun vs H Q _ => ∃ (a : Addr) (rs : List Int), vs = [.ref a] ∧ IsMd C H a rs ∧ rs.length ≤ 60 ∧ (∀ z ∈ rs, Sm z) ∧ ∀ H', Same H H' → Q (.str (mdTx rs)) H'
section
variable {P : Program} {w : World} {K : PySem.W.Frag} {mg : Str → Option Value} {base : Heap}
theorem scLen : FnScope ["self"] ["self"] (defScope sLen) := ⟨rfl, rfl, rfl, by decide +kernel, rfl, by decide +kernel, by decide +kernel⟩
theorem ok_len {f C : Addr} {fd : FuncData} (F : Fun K "__len__" "Mend.__len__" sLen f fd) (T : MdF K mg C) (hlen : mg "len" = none) : FnOk P w K mg base CX0 1 f fd ["self"] (spLen C) := by
  refine F.ok scLen (fun vs H Q E h => ?_) (fun cdv A outer s H vs Q E hr h => ?_)
  · obtain ⟨_, _, rfl, _⟩ := h
    rfl
  · obtain ⟨a, rs, rfl, ⟨dx, t, h1, h2⟩, k⟩ := h
    refine ⟨_, pss_one (ps_ret (pe_callB call_len_seq (by rfl) hlen PySem.boot_len (pa_cons (pe_fld (pv 0) rfl) pa_nil))), ?_⟩
    refine ⟨_, rfl, a, C, dx, _, _, rfl, h1, T.cl, T.nR, rfl, t, _, rfl, .inr (SqT.of h2), ?_⟩
    rw [List.length_map]
    exact k
theorem scBool : FnScope ["self"] ["self"] (defScope sBool) := ⟨rfl, rfl, rfl, by decide +kernel, rfl, by decide +kernel, by decide +kernel⟩
theorem ok_bool {f C : Addr} {fd : FuncData} (F : Fun K "__bool__" "Mend.__bool__" sBool f fd) (T : MdF K mg C) (hb : mg "bool" = none) : FnOk P w K mg base CX0 1 f fd ["self"] (spBool C) := by
  refine F.ok scBool (fun vs H Q E h => ?_) (fun cdv A outer s H vs Q E hr h => ?_)
  · obtain ⟨_, _, rfl, _⟩ := h
    rfl
  · obtain ⟨a, rs, rfl, ⟨dx, t, h1, h2⟩, k⟩ := h
    refine ⟨_, pss_one (ps_ret (pe_callTy call_boolT (by rfl) hb PyProof.Rows.boot_bool (pa_cons (pe_fld (pv 0) rfl) pa_nil))), ?_⟩
    refine ⟨_, rfl, a, C, dx, _, _, rfl, h1, T.cl, T.nR, rfl, t, _, rfl, SqT.of h2, ?_⟩
    rw [List.isEmpty_map]
    exact k
theorem scIn : FnScope ["self", "x"] ["self", "x"] (defScope sIn) := ⟨rfl, rfl, rfl, by decide +kernel, rfl, by decide +kernel, by decide +kernel⟩
theorem ok_in {f fI C : Addr} {fd fdI : FuncData} (F : Fun K "__contains__" "Mend.__contains__" sIn f fd) (T : MdF K mg C) (GI : FnOk P w K mg base CX0 1 fI fdI ["thing"] (spIsI K)) (bI : Binds K fdI ["thing"] []) (kI : PySem.W.keepIn K (.ref fI) = true) (mI : mg "is_integer" = some (.ref fI)) : FnOk P w K mg base CX0 2 f fd ["self", "x"] (spIn K C) := by
  refine F.ok scIn (fun vs H Q E h => ?_) (fun cdv A outer s H vs Q E hr h => ?_)
  · obtain ⟨_, _, _, rfl, _⟩ := h
    rfl
  · obtain ⟨a, rs, v, rfl, ⟨dx, t, h1, h2⟩, k⟩ := h
    refine ⟨_, pss_one (ps_ret (pe_and (pe_call GI hr (by rfl) mI kI bI .nil pass0 (pa_cons (pv 1) pa_nil)) (pe_one (pe_cmpR op_in_seq (pv 1) (pe_fld (pv 0) rfl) (by rfl))))), ?_⟩
    rcases k with ⟨z, rfl, k⟩ | ⟨tn, bi, bb, ty, k1, k2, kf, k⟩
    · refine ⟨_, rfl, .int z, "int", true, false, rfl, .base (.int z), by decide +kernel, by decide +kernel, true, rfl, iteT ⟨_, rfl, _, rfl, a, C, dx, _, _, rfl, h1, T.cl, T.nR, rfl, t, _, rfl, .inr (SqT.of h2), rfl, flat_ints _, ?_⟩⟩
      rw [inV_ints]
      exact k
    · refine ⟨_, rfl, v, tn, bi, bb, rfl, ty, k1, k2, _, rfl, ?_⟩
      rw [kf]
      exact iteF k
theorem scOr : FnScope ["self", "other", "rows"] ["self", "other"] (defScope sOr) := ⟨rfl, rfl, rfl, by decide +kernel, rfl, by decide +kernel, by decide +kernel⟩
/-- t + u of two tuples of ints, whatever is empty -/
theorem cat_any {H : Hp} {t u : Addr} {rs qs : List Int} {Q : VK} (ht : H t = some (.tup (rs.map V.int))) (hu : H u = some (.tup (qs.map V.int))) (l : rs.length + qs.length ≤ 60) (k : ∀ p H', Same H H' → H' p = some (.tup ((rs ++ qs).map V.int)) → Q (.ref p) H') : rCatA K (.ref t) (.ref u) H Q := by
  refine ⟨t, u, _, _, rfl, rfl, SqT.of ht, SqT.of hu, by rw [List.length_map, List.length_map, sizeLine_eq]; omega, fun e => ?_, fun _ e => ?_, fun _ _ p np => k p _ (same_new np) (by rw [upd_same, List.map_append])⟩
  · have e' : rs = [] := List.map_eq_nil_iff.mp e
    subst e'
    exact k u H (Same.refl _) hu
  · have e' : qs = [] := List.map_eq_nil_iff.mp e
    subst e'
    exact k t H (Same.refl _) (by rw [List.append_nil]; exact ht)
theorem mk_new {C : Addr} {H : Hp} {zs : List Int} {Q : VK} (l : zs.length ≤ 60) (k : ∀ (x : Addr) (H' : Hp), Same H H' → H x = none → IsMd C H' x (asc zs) → Q (.ref x) H') : ∀ x dx, H x = none → H dx = none → dx ≠ x → spMk C (.ref x :: zs.map V.int) (upd (upd H dx (.own x)) x (.ins C dx [])) (fun v H2 => v = .non ∧ Q (.ref x) H2) E0 := by
  intro x dx nx ndx nn
  refine ⟨x, dx, zs, rfl, upd_same, l, fun H' hm kp => ⟨rfl, k x H' (fun p o z => kp p o ?_ (ne_of_none z nx)) nx hm⟩⟩
  rw [upd_ne (ne_of_none z nx), upd_ne (ne_of_none z ndx)]
  exact z
theorem ok_or {f fM C : Addr} {fd : FuncData} (F : Fun K "__or__" "Mend.__or__" sOr f fd) (T : MdF K mg C) (M : Mk K C fM) (GM : FnR P w K mg base CX0 2 fM (spMk C)) : FnOk P w K mg base CX0 4 f fd ["self", "other"] (spOr C) := by
  refine F.ok scOr (fun vs H Q E h => ?_) (fun cdv A outer s H vs Q E hr h => ?_)
  · obtain ⟨_, _, _, _, rfl, _⟩ := h
    rfl
  · obtain ⟨a, b, rs, qs, rfl, ⟨dx, t, h1, h2⟩, ⟨dy, u, g1, g2⟩, hl, k⟩ := h
    refine ⟨_, pss_cons (ps_set (i := 2) scOr.nd rfl (Or.inl rfl) (pe_op op_catA (pe_fld (pv 0) rfl) (pe_fld (pv 1) rfl))) (pss_one (ps_ret (pe_makeS (E := E0) M GM (hr.mono (by decide)) (by rfl) T.g pass0 (pv 2)))), ?_⟩
    refine ⟨_, rfl, a, C, dx, _, _, rfl, h1, T.cl, T.nR, rfl, _, rfl, b, C, dy, _, _, rfl, g1, T.cl, T.nR, rfl, cat_any h2 g2 hl fun p H1 s1 hp => ?_⟩
    refine ⟨_, rfl, p, _, rfl, .inl (SqT.of hp), mk_new (by rw [List.length_append]; exact hl) fun x H' s2 nx hm => k x H' (s1.trans s2) (s1.free nx) hm⟩
theorem scAnd : FnScope ["self", "other", "rows", "row"] ["self", "other"] (defScope sAnd) := ⟨rfl, rfl, rfl, by decide +kernel, rfl, by decide +kernel, by decide +kernel⟩
theorem ok_and {f fM C : Addr} {fd : FuncData} (F : Fun K "__and__" "Mend.__and__" sAnd f fd) (T : MdF K mg C) (M : Mk K C fM) (GM : FnR P w K mg base CX0 2 fM (spMk C)) : FnOk P w K mg base CX0 4 f fd ["self", "other"] (spAnd C) := by
  refine F.ok scAnd (fun vs H Q E h => ?_) (fun cdv A outer s H vs Q E hr h => ?_)
  · obtain ⟨_, _, _, _, rfl, _⟩ := h
    rfl
  · obtain ⟨a, b, rs, qs, rfl, ⟨dx, t, h1, h2⟩, ⟨dy, u, g1, g2⟩, hl, k⟩ := h
    refine ⟨_, pss_cons (ps_setLc (i := 2) (own := [("row", 3)]) (g := gName 3) (tt := tTest (tOp (rIn K false) (tVar 3) (tFld K (tVar 1) "rows"))) (te := tVar 3) rfl scAnd.nd rfl rfl (sw_true rfl rfl rfl (by decide +kernel)) (pi_tup (pe_fld (pv 0) rfl)) (blkOk_by (own := [("row", 3)]) (N := ["self", "other", "rows", "row"]) (sc := defScope sAnd) (by decide +kernel))
        (fun _ _ _ _ _ => pg_name (i := 3) scAnd.nd rfl (Or.inl rfl)) (fun _ _ _ _ _ => pts_one (pt_cmpR op_in_seq (pv 3) (pe_fld (pv 1) rfl) (by rfl))) (fun _ _ _ _ _ => pv 3))
      (pss_one (ps_ret (pe_makeS (E := E0) M GM (hr.mono (by decide)) (by rfl) T.g pass0 (pv 2)))), ?_⟩
    refine ⟨_, rfl, a, C, dx, _, _, rfl, h1, T.cl, T.nR, rfl, t, rfl, ⟨_, SqT.of h2⟩, fun D nD => ?_⟩
    refine loop_it (walk_tup (K := K) (a := t) (xs := rs.map V.int)) (fun i H3 => H3 D = some (.lst (((rs.take i).filter fun z => qs.contains z).map V.int)) ∧ Same H H3) ⟨upd_same, same_new nD⟩ (fun i H3 _ z => SqT.of (z.2 _ _ h2)) ?_ ?_
    · rintro i v H3 H4 hi ⟨hD, s3⟩ ⟨rfl, hv⟩
      rw [List.getElem?_map] at hv
      obtain ⟨z, hz, rfl⟩ := Option.map_eq_some_iff.mp hv
      have li : i < rs.length := (List.getElem?_eq_some_iff.mp hz).1
      have et : rs.take (i + 1) = rs.take i ++ [z] := by rw [List.take_add_one, hz]; rfl
      refine ⟨rfl, _, rfl, _, rfl, b, C, dy, _, _, rfl, s3 _ _ g1, T.cl, T.nR, rfl, u, _, rfl, .inr (SqT.of (s3 _ _ g2)), rfl, flat_ints _, _, rfl, ?_⟩
      have key : ∀ q : Bool, q = qs.contains z → (if q = true then ∃ v, [some (V.ref a), some (.ref b), none, some (.int z)][3]? = some (some v) ∧ ∃ acc, H4 D = some (.lst acc) ∧ acc.length < sizeLine ∧ (upd H4 D (.lst (acc ++ [v]))) D = some (.lst (((rs.take (i + 1)).filter fun z => qs.contains z).map V.int)) ∧ Same H (upd H4 D (.lst (acc ++ [v]))) else H4 D = some (.lst (((rs.take (i + 1)).filter fun z => qs.contains z).map V.int)) ∧ Same H H4) := by
        intro q hq
        rw [et, List.filter_append]
        cases hc : qs.contains z with
        | true =>
          rw [hc] at hq
          rw [hq]
          refine iteT ⟨_, rfl, _, hD, ?_, ?_, fun p o y => ?_⟩
          · rw [List.length_map, sizeLine_eq]
            have h3 := List.length_filter_le (fun z => qs.contains z) (rs.take i)
            rw [List.length_take] at h3
            omega
          · rw [upd_same, List.filter_cons_of_pos hc, List.filter_nil, List.map_append]
            rfl
          · rw [upd_ne (ne_of_none y nD)]
            exact s3 _ _ y
        | false =>
          rw [hc] at hq
          rw [hq]
          refine iteF ⟨?_, s3⟩
          rw [List.filter_cons_of_neg (by rw [hc]; decide), List.filter_nil, List.append_nil]
          exact hD
      exact key _ (by rw [inV_ints]; rfl)
    · rintro H3 ⟨hD, s3⟩
      rw [List.length_map, List.take_length] at hD
      have h3 := List.length_filter_le (fun z => qs.contains z) rs
      refine ⟨_, rfl, D, _, rfl, .inr (SqL.of hD), mk_new (by omega) fun x H' s4 nx hm => k x H' (s3.trans s4) (s3.free nx) hm⟩
theorem scIor : FnScope ["self", "other"] ["self", "other"] (defScope sIor) := ⟨rfl, rfl, rfl, by decide +kernel, rfl, by decide +kernel, by decide +kernel⟩
theorem ok_ior {f fO C : Addr} {fd fdO : FuncData} (F : Fun K "__ior__" "Mend.__ior__" sIor f fd) (T : MdF K mg C) (GO : FnOk P w K mg base CX0 1 fO fdO ["rows"] (spOrd K)) (bO : Binds K fdO ["rows"] []) (kO : PySem.W.keepIn K (.ref fO) = true) (mO : mg "ordered" = some (.ref fO)) : FnOk P w K mg base CX0 2 f fd ["self", "other"] (spIor C) := by
  refine F.ok scIor (fun vs H Q E h => ?_) (fun cdv A outer s H vs Q E hr h => ?_)
  · obtain ⟨_, _, _, _, rfl, _⟩ := h
    rfl
  · obtain ⟨a, b, rs, qs, rfl, ⟨dx, t, h1, h2⟩, ⟨dy, u, g1, g2⟩, hl, k⟩ := h
    refine ⟨_, pss_cons (ps_fld (pv 0) (pe_call GO hr (by rfl) mO kO bO .nil pass0 (pa_cons (pe_op op_catA (pe_fld (pv 0) rfl) (pe_fld (pv 1) rfl)) pa_nil)) rfl) (pss_one (ps_ret (pv 0))), ?_⟩
    refine ⟨_, rfl, a, C, dx, _, _, rfl, h1, T.cl, T.nR, rfl, _, rfl, b, C, dy, _, _, rfl, g1, T.cl, T.nR, rfl, cat_any h2 g2 hl fun p H1 s1 hp => ?_⟩
    refine ⟨p, rs ++ qs, rfl, SqT.of hp, by rw [List.length_append]; exact hl, fun q H2 s2 nq hq => ?_⟩
    have s12 := s1.trans s2
    have na : q ≠ a := fun z => by
      rw [z, s1 _ _ h1] at nq
      cases nq
    refine ⟨_, rfl, a, C, dx, _, rfl, s12 _ _ h1, T.cl, T.nR, (by show 1 < 1000; decide), _, rfl, k _ (fun p o z n => ?_) ⟨dx, q, upd_same, ?_⟩⟩
    · rw [upd_ne n]
      exact s12 _ _ z
    · rw [upd_ne na]
      exact hq
theorem scEq : FnScope ["self", "other"] ["self", "other"] (defScope sEq) := ⟨rfl, rfl, rfl, by decide +kernel, rfl, by decide +kernel, by decide +kernel⟩
theorem ok_eq {f C : Addr} {fd : FuncData} (F : Fun K "__eq__" "Mend.__eq__" sEq f fd) (T : MdF K mg C) (hii : mg "isinstance" = none) : FnOk P w K mg base CX0 1 f fd ["self", "other"] (spEq K C) := by
  refine F.ok scEq (fun vs H Q E h => ?_) (fun cdv A outer s H vs Q E hr h => ?_)
  · obtain ⟨_, _, _, rfl, _⟩ := h
    rfl
  · obtain ⟨a, rs, v, rfl, ⟨dx, t, h1, h2⟩, h⟩ := h
    refine ⟨_, pss_one (ps_ret (pe_and (pe_callB call_isi (by rfl) hii PyProof.Rows.boot_isinstance (pa_cons (pv 1) (pa_cons (pe_glob (v := .ref C) (by rfl) T.g rfl) pa_nil))) (pe_one (pe_cmpR (op_eqD hr.units) (pe_fld (pv 0) rfl) (pe_fld (pv 1) rfl) (nomark _))))), ?_⟩
    rcases h with ⟨b, qs, rfl, ⟨dy, u, g1, g2⟩, k⟩ | ⟨tn, ty, kn, k⟩
    · refine ⟨_, rfl, .ref b, .ref C, .ref C, .ref C, true, rfl, .own _, .base (.ins g1 T.cl T.ca T.cg T.ct T.cm), T.ck, _, rfl, iteT ?_⟩
      refine ⟨_, rfl, a, C, dx, _, _, rfl, h1, T.cl, T.nR, rfl, _, rfl, b, C, dy, _, _, rfl, g1, T.cl, T.nR, rfl, .tuple (rs.map PyData.int), .tuple (qs.map PyData.int), .tup (SqT.of h2) (dp_ints _), .tup (SqT.of g2) (dp_ints _), sh_tup _, sh_tup _, ?_⟩
      rw [eqv_tup]
      exact k
    · exact ⟨_, rfl, v, .ref C, .type tn, .ref C, false, rfl, .own _, ty, kn, _, rfl, iteF k⟩
theorem scStr : FnScope ["self"] ["self"] (defScope sStr) := ⟨rfl, rfl, rfl, by decide +kernel, rfl, by decide +kernel, by decide +kernel⟩
theorem emp_app (x : Str) : Str.empty ++ x = x := by
  apply TL.ext_tl
  rw [TL.tl_append]
  rfl
theorem len_app (x y : Str) : (x ++ y).length = x.length + y.length := by
  show (x.cps ++ y.cps).size = _
  rw [Array.size_append]
  rfl
theorem join_len (z : Str) (l : List Str) : (Txt.join z l).length ≤ (l.map (·.length)).sum + l.length * z.length := by
  rw [TL.join_eq]
  exact StrLaws.join_length_le z l
theorem ok_str {f fT C : Addr} {fd fdT : FuncData} (F : Fun K "__str__" "Mend.__str__" sStr f fd) (T : MdF K mg C) (GT : FnOk P w K mg base CX0 1 fT fdT ["rows"] (spRtx K)) (bT : Binds K fdT ["rows"] []) (kT : PySem.W.keepIn K (.ref fT) = true) (mT : mg "rows_text" = some (.ref fT)) : FnOk P w K mg base CX0 2 f fd ["self"] (spStr C) := by
  refine F.ok scStr (fun vs H Q E h => ?_) (fun cdv A outer s H vs Q E hr h => ?_)
  · obtain ⟨_, _, rfl, _⟩ := h
    rfl
  · obtain ⟨a, rs, rfl, ⟨dx, t, h1, h2⟩, hl, hs, k⟩ := h
    refine ⟨_, pss_cons (ps_if (pt_cmpR (op_eqD hr.units) (pe_fld (pv 0) rfl) (pe_tup pa_nil) (nomark _)) (pss_one (ps_ret pe_str)) pss_nil)
      (pss_one (ps_ret (pe_joined (.cons pe_str (.cons (pe_fmt (pe_call GT hr (by rfl) mT kT bT .nil pass0 (pa_cons (pe_fld (pv 0) rfl) pa_nil))) .nil))))), ?_⟩
    refine ⟨_, rfl, a, C, dx, _, _, rfl, h1, T.cl, T.nR, rfl, ?_⟩
    unfold tNil
    refine ⟨Nat.zero_le _, fun p np => ?_⟩
    have s1 : Same H (upd H p (.tup [])) := same_new np
    refine ⟨.tuple (rs.map PyData.int), .tuple (([] : List Int).map PyData.int), .tup (SqT.of (s1 _ _ h2)) (dp_ints _), .tup (xs := []) (SqT.of upd_same) .nil, sh_tup _, sh_tup _, _, rfl, ?_⟩
    rw [eqv_tup]
    by_cases hz : rs = []
    · rw [decide_eq_true hz]
      have := k _ s1
      unfold mdTx at this
      rw [if_pos hz] at this
      exact this
    · rw [decide_eq_false hz]
      have hj : (rowTx rs).length ≤ 60 * 31 + 60 * 2 := by
        have b1 : (rowTx rs).length ≤ ((rs.map numS).map (·.length)).sum + (rs.map numS).length * (", " : Str).length := by
          exact join_len _ _
        have b2 := sum_num hs
        have b3 : (", " : Str).length = 2 := by decide +kernel
        rw [b3, List.length_map] at b1
        omega
      have b5 : ("rows " : Str).length = 5 := by decide +kernel
      have sl : sizeLine = 16777216 := sizeLine_eq
      refine ⟨"rows ", rfl, by rw [emp_app]; omega, _, rfl, a, C, dx, _, _, rfl, s1 _ _ h1, T.cl, T.nR, rfl, t, rs, rfl, SqT.of (s1 _ _ h2), hl, hs, fun H2 s2 => .inl ⟨_, rfl, by omega, _, rfl, by rw [emp_app, len_app]; omega, ?_⟩⟩
      rw [emp_app]
      have := k _ (s1.trans s2)
      unfold mdTx at this
      rw [if_neg hz] at this
      exact this
end
end Lq


set_option Elab.async false
set_option linter.all false
set_option maxRecDepth 100000
set_option maxHeartbeats 8000000
namespace Lq
open PySem L2 L2.LqX
abbrev sMade : Stmt := topS 10
abbrev sDrawn : Stmt := topS 11
def spMade (C : Addr) : Sp := fun vs H Q _ => ∃ (l : Addr) (zs : List Int), vs = [.ref l] ∧ H l = some (.lst (zs.map V.int)) ∧ zs.length ≤ 6 ∧ ∀ (x : Addr) (H' : Hp), Same H H' → H x = none → IsMd C H' x (asc zs) → Q (.ref x) H'
section
variable {P : Program} {w : World} {K : PySem.W.Frag} {mg : Str → Option Value} {base : Heap}
theorem scMade : FnScope ["some"] ["some"] (defScope sMade) := ⟨rfl, rfl, rfl, by decide +kernel, rfl, by decide +kernel, by decide +kernel⟩
theorem ok_made {f fM C : Addr} {fd : FuncData} (F : Fun K "_law_made" "_law_made" sMade f fd) (T : MdF K mg C) (M : Mk K C fM) (GM : FnR P w K mg base CX0 2 fM (spMk C)) (hlen : mg "len" = none) : FnOk P w K mg base CX0 4 f fd ["some"] (spMade C) := by
  refine F.ok scMade (fun vs H Q E h => ?_) (fun cdv A outer s H vs Q E hr h => ?_)
  · obtain ⟨_, _, rfl, _⟩ := h
    rfl
  · obtain ⟨l, zs, rfl, hl, h6, k⟩ := h
    refine ⟨_, pss_cons (ps_if (pt_cmpR op_eq (pe_callB call_len_seq (by rfl) hlen PySem.boot_len (pa_cons (pv 0) pa_nil)) pe_int (nomark _)) (pss_one (ps_ret (pe_makeR0 (E := E0) M GM (hr.mono (by decide)) (by rfl) T.g pass0))) pss_nil)
      (pss_cons (ps_if (pt_cmpR op_eq (pe_callB call_len_seq (by rfl) hlen PySem.boot_len (pa_cons (pv 0) pa_nil)) pe_int (nomark _)) (pss_one (ps_ret (StX.pe_makeR (E := E0) M GM (hr.mono (by decide)) (by rfl) T.g pass0 (pa_cons (pe_ix ix_list (pv 0) pe_int (fun _ _ => rfl)) pa_nil)))) pss_nil)
      (pss_cons (ps_if (pt_cmpR op_eq (pe_callB call_len_seq (by rfl) hlen PySem.boot_len (pa_cons (pv 0) pa_nil)) pe_int (nomark _)) (pss_one (ps_ret (StX.pe_makeR (E := E0) M GM (hr.mono (by decide)) (by rfl) T.g pass0 (pa_cons (pe_ix ix_list (pv 0) pe_int (fun _ _ => rfl)) (pa_cons (pe_ix ix_list (pv 0) pe_int (fun _ _ => rfl)) pa_nil))))) pss_nil)
      (pss_cons (ps_if (pt_cmpR op_eq (pe_callB call_len_seq (by rfl) hlen PySem.boot_len (pa_cons (pv 0) pa_nil)) pe_int (nomark _)) (pss_one (ps_ret (StX.pe_makeR (E := E0) M GM (hr.mono (by decide)) (by rfl) T.g pass0 (pa_cons (pe_ix ix_list (pv 0) pe_int (fun _ _ => rfl)) (pa_cons (pe_ix ix_list (pv 0) pe_int (fun _ _ => rfl)) (pa_cons (pe_ix ix_list (pv 0) pe_int (fun _ _ => rfl)) pa_nil)))))) pss_nil)
      (pss_one (ps_ret (StX.pe_makeR (E := E0) M GM (hr.mono (by decide)) (by rfl) T.g pass0 (pa_cons (pe_ix ix_list (pv 0) pe_int (fun _ _ => rfl)) (pa_cons (pe_ix ix_list (pv 0) pe_int (fun _ _ => rfl)) (pa_cons (pe_ix ix_list (pv 0) pe_int (fun _ _ => rfl)) (pa_cons (pe_ix ix_list (pv 0) pe_int (fun _ _ => rfl))
        (pa_cons (pe_ix ix_list (pv 0) (pe_un un_neg pe_int) (fun _ _ => rfl)) (pa_cons (pe_ix ix_list (pv 0) (pe_un un_neg pe_int) (fun _ _ => rfl)) pa_nil)))))))))))), ?_⟩
    have go : ∀ ys : List Int, ys.length ≤ 60 → (∀ x, x ∈ ys ↔ x ∈ zs) → ∀ x dx, H x = none → H dx = none → dx ≠ x → spMk C (.ref x :: ys.map V.int) (upd (upd H dx (.own x)) x (.ins C dx [])) (fun v H2 => v = .non ∧ Q (.ref x) H2) E0 := fun ys l me => mk_new l fun x H' s nx hm => k x H' s nx (by rw [← asc_eq me]; exact hm)
    have sq : SqL K H l (zs.map V.int) := SqL.of hl
    have ev : ∀ n m : Nat, decide (V.int (n : Int) = V.int (m : Int)) = decide (n = m) := fun n m => by
      by_cases e : n = m
      · rw [e, decide_eq_true rfl, decide_eq_true rfl]
      · rw [decide_eq_false e, decide_eq_false fun z => by
          injection z with z
          omega]
    match zs, h6 with
    | [], _ => exact ⟨_, rfl, l, _, rfl, .inl sq, rfl, _, rfl, go [] (by decide) fun x => Iff.rfl⟩
    | [a], _ => exact ⟨_, rfl, l, _, rfl, .inl sq, rfl, _, rfl, if_no rfl ⟨_, rfl, l, _, rfl, .inl sq, rfl, _, rfl, _, rfl, l, _, _, _, rfl, rfl, sq, rfl, go [a] (by simp) fun x => Iff.rfl⟩⟩
    | [a, b], _ => exact ⟨_, rfl, l, _, rfl, .inl sq, rfl, _, rfl, if_no rfl ⟨_, rfl, l, _, rfl, .inl sq, rfl, _, rfl, if_no rfl ⟨_, rfl, l, _, rfl, .inl sq, rfl, _, rfl, _, rfl, l, _, _, _, rfl, rfl, sq, rfl, _, rfl, l, _, _, _, rfl, rfl, sq, rfl, go [a, b] (by simp) fun x => Iff.rfl⟩⟩⟩
    | [a, b, c], _ => exact ⟨_, rfl, l, _, rfl, .inl sq, rfl, _, rfl, if_no rfl ⟨_, rfl, l, _, rfl, .inl sq, rfl, _, rfl, if_no rfl ⟨_, rfl, l, _, rfl, .inl sq, rfl, _, rfl, if_no rfl ⟨_, rfl, l, _, rfl, .inl sq, rfl, _, rfl, _, rfl, l, _, _, _, rfl, rfl, sq, rfl, _, rfl, l, _, _, _, rfl, rfl, sq, rfl, _, rfl, l, _, _, _, rfl, rfl, sq, rfl, go [a, b, c] (by simp) fun x => Iff.rfl⟩⟩⟩⟩
    | [a, b, c, d], _ =>
      refine ⟨_, rfl, l, _, rfl, .inl sq, rfl, _, rfl, if_no rfl ⟨_, rfl, l, _, rfl, .inl sq, rfl, _, rfl, if_no rfl ⟨_, rfl, l, _, rfl, .inl sq, rfl, _, rfl, if_no rfl ⟨_, rfl, l, _, rfl, .inl sq, rfl, _, rfl, if_no rfl ?_⟩⟩⟩⟩
      exact ⟨_, rfl, l, _, _, _, rfl, rfl, sq, rfl, _, rfl, l, _, _, _, rfl, rfl, sq, rfl, _, rfl, l, _, _, _, rfl, rfl, sq, rfl, _, rfl, l, _, _, _, rfl, rfl, sq, rfl, _, rfl, _, rfl, l, _, _, _, rfl, rfl, sq, rfl, _, rfl, _, rfl, l, _, _, _, rfl, rfl, sq, rfl, go [a, b, c, d, c, d] (by simp) fun x => by simp only [List.mem_cons, List.not_mem_nil, or_false]; omega⟩
    | [a, b, c, d, e], _ =>
      refine ⟨_, rfl, l, _, rfl, .inl sq, rfl, _, rfl, if_no rfl ⟨_, rfl, l, _, rfl, .inl sq, rfl, _, rfl, if_no rfl ⟨_, rfl, l, _, rfl, .inl sq, rfl, _, rfl, if_no rfl ⟨_, rfl, l, _, rfl, .inl sq, rfl, _, rfl, if_no rfl ?_⟩⟩⟩⟩
      exact ⟨_, rfl, l, _, _, _, rfl, rfl, sq, rfl, _, rfl, l, _, _, _, rfl, rfl, sq, rfl, _, rfl, l, _, _, _, rfl, rfl, sq, rfl, _, rfl, l, _, _, _, rfl, rfl, sq, rfl, _, rfl, _, rfl, l, _, _, _, rfl, rfl, sq, rfl, _, rfl, _, rfl, l, _, _, _, rfl, rfl, sq, rfl, go [a, b, c, d, d, e] (by simp) fun x => by simp only [List.mem_cons, List.not_mem_nil, or_false]; omega⟩
    | [a, b, c, d, e, g], _ =>
      refine ⟨_, rfl, l, _, rfl, .inl sq, rfl, _, rfl, if_no rfl ⟨_, rfl, l, _, rfl, .inl sq, rfl, _, rfl, if_no rfl ⟨_, rfl, l, _, rfl, .inl sq, rfl, _, rfl, if_no rfl ⟨_, rfl, l, _, rfl, .inl sq, rfl, _, rfl, if_no rfl ?_⟩⟩⟩⟩
      exact ⟨_, rfl, l, _, _, _, rfl, rfl, sq, rfl, _, rfl, l, _, _, _, rfl, rfl, sq, rfl, _, rfl, l, _, _, _, rfl, rfl, sq, rfl, _, rfl, l, _, _, _, rfl, rfl, sq, rfl, _, rfl, _, rfl, l, _, _, _, rfl, rfl, sq, rfl, _, rfl, _, rfl, l, _, _, _, rfl, rfl, sq, rfl, go [a, b, c, d, e, g] (by simp) fun x => Iff.rfl⟩
    | _ :: _ :: _ :: _ :: _ :: _ :: _ :: _, h => simp only [List.length_cons] at h; omega
/-! _law_drawn(bag) -/
def Nt (z : Int) : Prop := 0 ≤ z ∧ z < 10 ^ 20
theorem Nt.sm {z : Int} (h : Nt z) : Sm z := by
  obtain ⟨h0, h1⟩ := h
  unfold Sm
  have : (10 : Int) ^ 20 = 100000000000000000000 := by decide
  have e : (10 : Nat) ^ 30 = 1000000000000000000000000000000 := by decide
  omega
def spDrawn : Sp := fun vs H Q _ => ∃ (a : Addr) (g c s : Int), vs = [.ref a] ∧ H a = some (.lst (bagL g c s)) ∧ Bag g c s ∧ c + 10 < 1000 ∧
  ∀ (l : Addr) (zs : List Int) (H' : Hp), H' l = some (.lst (zs.map V.int)) → zs.length ≤ 6 → (∀ z ∈ zs, Nt z) → H l = none → Mv H a c s 8 H' → Q (.ref l) H'
theorem Mv.trans {H H1 H2 : Hp} {a : Addr} {c s n m : Int} {c1 : Int} (h : Mv H a c s n H1) (e : ∀ g1 c', H1 a = some (.lst (bagL g1 c' s)) → Bag g1 c' s → c' ≤ c + n → c1 = c') (k : Mv H1 a c1 s m H2) : Mv H a c s (n + m) H2 := by
  obtain ⟨g1, c', B, l, h1, h2⟩ := h
  obtain ⟨g2, c2, B2, l2, k1, k2⟩ := k
  have := e g1 c' h1 B l
  exact ⟨g2, c2, B2, by omega, k1, fun p o z n => k2 p o (h2 p o z n) n⟩
theorem scDrawn : FnScope ["bag", "many", "small", "turn"] ["bag"] (defScope sDrawn) := ⟨rfl, rfl, rfl, by decide +kernel, rfl, by decide +kernel, by decide +kernel⟩
theorem ok_drawn {f fD fO : Addr} {fd fdD fdO : FuncData} (F : Fun K "_law_drawn" "_law_drawn" sDrawn f fd) (GD : FnOk P w K mg base CX0 1 fD fdD ["bag", "many"] spDraw) (bD : Binds K fdD ["bag", "many"] []) (kD : PySem.W.keepIn K (.ref fD) = true) (mD : mg "_law_draw" = some (.ref fD))
    (GO : FnOk P w K mg base CX0 2 fO fdO ["bag", "some"] (spOne K)) (bO : Binds K fdO ["bag", "some"] []) (kO : PySem.W.keepIn K (.ref fO) = true) (mO : mg "_law_one" = some (.ref fO)) (hra : mg "range" = none) : FnOk P w K mg base CX0 3 f fd ["bag"] spDrawn := by
  refine F.ok scDrawn (fun vs H Q E h => ?_) (fun cdv A outer s H vs Q E hr h => ?_)
  · obtain ⟨_, _, _, _, rfl, _⟩ := h
    rfl
  · obtain ⟨a, g, c, sd, rfl, ha, S, hc, k⟩ := h
    refine ⟨_, pss_cons (ps_set (i := 1) scDrawn.nd rfl (Or.inl rfl) (pe_call GO hr (by rfl) mO kO bO .nil pass0 (pa_cons (pv 0) (pa_cons (pe_lst (pa_cons pe_int (pa_cons pe_int (pa_cons pe_int (pa_cons pe_int (pa_cons pe_int (pa_cons pe_int pa_nil))))))) pa_nil))))
      (pss_cons (ps_set (i := 2) scDrawn.nd rfl (Or.inr rfl) (pe_call GD (hr.mono (by decide)) (by rfl) mD kD bD .nil pass0 (pa_cons (pv 0) (pa_cons pe_int pa_nil))))
      (pss_one (ps_ret (pe_lc (own := [("turn", 3)]) (g := gName 3) (tt := tYes) (te := tCall spDraw [] E0 (tCons (tVar 0) (tCons (tOp (rIxL K) (tLst (tCons (tC (.int 4)) (tCons (tC (.int 60)) (tCons (tOp (rI CPow fun i j => .int (i ^ j.toNat)) (tC (.int 10)) (tC (.int 20))) tNil)))) (tVar 2)) tNil))) rfl scDrawn.nd (pi_range1 (by rfl) hra (pa_cons (pv 1) pa_nil)) (blkOk_by (own := [("turn", 3)]) (N := ["bag", "many", "small", "turn"]) (sc := defScope sDrawn) (by decide +kernel))
        (fun _ _ _ _ _ => pg_name (i := 3) scDrawn.nd rfl (Or.inl rfl)) (fun _ _ _ _ _ => pts_nil) (fun _ _ _ _ _ => pe_call GD (hr.mono (by decide)) (by rfl) mD kD bD .nil pass0 (pa_cons (pv 0) (pa_cons (pe_ix ix_list (pe_lst (pa_cons pe_int (pa_cons pe_int (pa_cons (pe_op op_pow pe_int pe_int) pa_nil)))) (pv 2) (fun _ _ => rfl)) pa_nil))))))), ?_⟩
    refine ⟨_, rfl, (by show 6 ≤ sizeLine; decide), fun p np => ?_⟩
    have s0 : Same H (upd H p (.lst [V.int 0, .int 1, .int 2, .int 3, .int 5, .int 6])) := same_new np
    refine ⟨a, p, g, c, sd, _, rfl, s0 _ _ ha, S, by omega, SqL.of upd_same, ne_of_none ha np, by decide, by decide, fun i v H1 hv mv1 => ?_⟩
    obtain ⟨n, rfl, n0, n1⟩ : ∃ n : Int, v = .int n ∧ 0 ≤ n ∧ n ≤ 6 := by
      match i, hv with
      | 0, hv => cases hv; exact ⟨0, rfl, by decide, by decide⟩
      | 1, hv => cases hv; exact ⟨1, rfl, by decide, by decide⟩
      | 2, hv => cases hv; exact ⟨2, rfl, by decide, by decide⟩
      | 3, hv => cases hv; exact ⟨3, rfl, by decide, by decide⟩
      | 4, hv => cases hv; exact ⟨5, rfl, by decide, by decide⟩
      | 5, hv => cases hv; exact ⟨6, rfl, by decide, by decide⟩
      | i + 6, hv => cases hv
    obtain ⟨g1, c1, B1, l1, h1, k1⟩ := mv1
    refine ⟨_, rfl, a, g1, c1, sd, 3, rfl, h1, B1, by omega, by decide, by decide, fun sm H2 q0 q1 mv2 => ?_⟩
    obtain ⟨g2, c2, B2, l2, h2, k2⟩ := mv2
    have kH : But a H H2 := fun q o z n => k2 q o (k1 q o (s0 q o z) n) n
    refine ⟨_, rfl, n, rfl, by omega, by omega, fun D nD => ?_⟩
    have nDa : D ≠ a := fun e => by rw [e, h2] at nD; cases nD
    have nDH : H D = none := by
      cases e : H D with
      | none => rfl
      | some o =>
        have := kH D o e nDa
        rw [nD] at this
        cases this
    refine loop_it (walk_range (lo := 0) (n := n.toNat)) (fun j H3 => ∃ zs : List Int, zs.length = j ∧ (∀ z ∈ zs, Nt z) ∧ H3 D = some (.lst (zs.map V.int)) ∧ But a H H3 ∧ ∃ g3 c3, Bag g3 c3 sd ∧ c3 ≤ c2 + j ∧ H3 a = some (.lst (bagL g3 c3 sd))) ⟨[], rfl, (fun _ z => nomatch z), upd_same, fun q o z n => by rw [upd_ne (ne_of_none z nDH)]; exact kH q o z n, g2, c2, B2, by omega, by rw [upd_ne (Ne.symm nDa)]; exact h2⟩ (fun _ _ _ _ => trivial) ?_ ?_
    · rintro j v H3 H4 hj ⟨zs, lz, hz, hD, kp, g3, c3, B3, l3, h3⟩ ⟨rfl, rfl⟩
      refine ⟨rfl, _, rfl, _, _, rfl, rfl, ⟨by decide, by decide, by decide⟩, (by show 3 ≤ sizeLine; decide), fun q nq => ?_⟩
      obtain ⟨m, hm, m0, m1, m2⟩ : ∃ m : Int, atI [V.int 4, .int 60, .int (10 ^ 20)] sm = some (.int m) ∧ 0 < m ∧ m.natAbs < 2 ^ 200 ∧ m ≤ 10 ^ 20 := by
        rcases (by omega : sm = 0 ∨ sm = 1 ∨ sm = 2) with rfl | rfl | rfl
        · exact ⟨4, rfl, by decide, by decide, by decide⟩
        · exact ⟨60, rfl, by decide, by decide, by decide⟩
        · exact ⟨_, rfl, by decide, by decide, by decide⟩
      have s4 : Same H4 (upd H4 q (.lst [V.int 4, .int 60, .int (10 ^ 20)])) := same_new nq
      refine ⟨_, rfl, q, _, sm, _, rfl, rfl, SqL.of upd_same, hm, a, g3, c3, sd, m, rfl, s4 _ _ h3, B3, by omega, m0, m1, fun r H5 r0 r1 mv5 => ?_⟩
      obtain ⟨g5, c5, B5, l5, h5, k5⟩ := mv5
      refine ⟨_, k5 _ _ (s4 _ _ hD) nDa, ?_, zs ++ [r], ?_, fun z hz' => ?_, ?_, fun p o z n => ?_, g5, c5, B5, by omega, ?_⟩
      · rw [List.length_map, sizeLine_eq]
        omega
      · rw [List.length_append, lz]
        rfl
      · rcases List.mem_append.mp hz' with h | h
        · exact hz z h
        · rw [List.mem_singleton.mp h]
          exact ⟨r0, Int.lt_of_lt_of_le r1 m2⟩
      · rw [upd_same, List.map_append]
        rfl
      · rw [upd_ne (ne_of_none z nDH)]
        exact k5 p o (s4 _ _ (kp p o z n)) n
      · rw [upd_ne (Ne.symm nDa)]
        exact h5
    · rintro H3 ⟨zs, lz, hz, hD, kp, g3, c3, B3, l3, h3⟩
      exact k D zs H3 hD (by omega) hz nDH ⟨g3, c3, B3, by omega, h3, kp⟩
end
end Lq


set_option Elab.async false
set_option linter.all false
set_option maxRecDepth 100000
set_option maxHeartbeats 8000000
namespace Lq
open PySem L2 L2.LqX
abbrev sIs : Stmt := topS 12
theorem scIs : FnScope ["mend", "due", "row"] ["mend", "due"] (defScope sIs) := ⟨rfl, rfl, rfl, by decide +kernel, rfl, by decide +kernel, by decide +kernel⟩
/-- rows of a mend as the law draws them -/
structure Rw (rs : List Int) : Prop where
  l : rs.length ≤ 60
  n : ∀ z ∈ rs, Nt z
/-- what _law_is calls -/
structure IF (P : Program) (w : World) (K : PySem.W.Frag) (mg : Str → Option Value) (base : Heap) (C fLn fBo fIn fSt : Addr) : Prop where
  T : MdF K mg C
  oLn : OwnM K C "__len__" fLn
  gLn : FnR P w K mg base CX0 1 fLn (spLen C)
  oBo : OwnM K C "__bool__" fBo
  gBo : FnR P w K mg base CX0 1 fBo (spBool C)
  oIn : OwnM K C "__contains__" fIn
  gIn : FnR P w K mg base CX0 2 fIn (spIn K C)
  oSt : OwnM K C "__str__" fSt
  gSt : FnR P w K mg base CX0 2 fSt (spStr C)
  uisinstance : mg "isinstance" = none
  utuple : mg "tuple" = none
  ulist : mg "list" = none
  ulen : mg "len" = none
  ubool : mg "bool" = none
  ustr : mg "str" = none
theorem ty_list {K : PySem.W.Frag} {H : Hp} {a : Addr} {xs : List V} (h : SqL K H a xs) : TyX K H (.ref a) (.type "list") := by
  rcases h with (h | ⟨o, h⟩) | ⟨o, its, n, h, c, _⟩
  · exact .base (.lst h)
  · exact .base (.frz h)
  · exact .kList h c
theorem ty_tup {K : PySem.W.Frag} {H : Hp} {a : Addr} {xs : List V} (h : SqT K H a xs) : TyX K H (.ref a) (.type "tuple") := by
  rcases h with (h | ⟨o, h⟩) | ⟨o, its, n, h, c, _⟩
  · exact .base (.tup h)
  · exact .fTuple h
  · exact .kTuple h c
def spIs (C : Addr) : Sp := fun vs H Q _ => ∃ (a d : Addr) (rs : List Int), vs = [.ref a, .ref d] ∧ IsMd C H a rs ∧ H d = some (.lst (rs.map V.int)) ∧ Rw rs ∧ ∀ H', Same H H' → Q (.bl true) H'
theorem eqv_e (rs : List Int) : PyData.eqv (.list (rs.map PyData.int)) (.list []) = decide (rs = []) := eqv_lst rs []
section
variable {P : Program} {w : World} {K : PySem.W.Frag} {mg : Str → Option Value} {base : Heap}
theorem ok_is {f C fLn fBo fIn fSt : Addr} {fd : FuncData} (F : Fun K "_law_is" "_law_is" sIs f fd) (L : IF P w K mg base C fLn fBo fIn fSt) : FnOk P w K mg base CX0 5 f fd ["mend", "due"] (spIs C) := by
  refine F.ok scIs (fun vs H Q E h => ?_) (fun cdv A outer s H vs Q E hr h => ?_)
  · obtain ⟨_, _, _, rfl, _⟩ := h
    rfl
  obtain ⟨a, d, rs, rfl, hm, hd, R, k⟩ := h
  refine ⟨_, (C8.pss_cut (ps_if (PW.pt (pw_or (pt_not (pt_val (pe_callB call_isi (by rfl) L.uisinstance PyProof.Rows.boot_isinstance (pa_cons (pe_fld (pv 0) rfl) (pa_cons (pe_bltn (by rfl) L.utuple PyProof.Rows.boot_tuple (v := .ty "tuple") rfl) pa_nil))))) (pw_or (pt_cmpR (op_neD hr.units) (pe_callTy call_list_of (by rfl) L.ulist PyProof.Rows.boot_list (pa_cons (pe_fld (pv 0) rfl) pa_nil)) (pv 1) (nomark _)) (pw_or1 (pt_cmpR op_ne (pe_callB (call_lenO L.oLn L.gLn (hr.mono (by decide)) (E := E0) pass0) (by rfl) L.ulen PySem.boot_len (pa_cons (pv 0) pa_nil)) (pe_callB call_len_seq (by rfl) L.ulen PySem.boot_len (pa_cons (pv 1) pa_nil)) (nomark _)))))) (pss_one (ps_ret pe_bl)) pss_nil)
      (C8.pss_cut (ps_if (PW.pt (pw_or (pt_cmpR (op_neD hr.units) (pe_lc (own := [("row", 2)]) (g := gName 2) (tt := tB (tCB (rIsi K) (tCons (tVar 2) (tCons (tC (.ty "bool")) tNil)))) (te := tVar 2) rfl scIs.nd (pi_tup (pe_fld (pv 0) rfl)) (blkOk_by (own := [("row", 2)]) (N := ["mend", "due", "row"]) (sc := defScope sIs) (by decide +kernel)) (fun _ _ _ _ _ => (pg_name (i := 2) scIs.nd rfl (Or.inl rfl))) (fun _ _ _ _ _ => pts_one (pt_val (pe_callB call_isi (by rfl) L.uisinstance PyProof.Rows.boot_isinstance (pa_cons (pv 2) (pa_cons (pe_bltn (by rfl) L.ubool PyProof.Rows.boot_bool (v := .ty "bool") rfl) pa_nil))))) (fun _ _ _ _ _ => pv 2)) (pe_lst pa_nil) (nomark _)) (pw_or1 (pt_cmpR op_ne (pe_callTy (call_boolO L.oBo L.gBo (hr.mono (by decide)) (E := E0) pass0) (by rfl) L.ubool PyProof.Rows.boot_bool (pa_cons (pv 0) pa_nil)) (pe_cmpR (op_neD hr.units) (pv 1) (pe_lst pa_nil) (nomark _)) (nomark _))))) (pss_one (ps_ret pe_bl)) pss_nil)
      (C8.pss_cut (ps_if (pt_cmpR op_ne (pe_callTy (call_strO L.oSt L.gSt (hr.mono (by decide)) (E := E0) pass0) (by rfl) L.ustr PyProof.Rows.boot_str (pa_cons (pv 0) pa_nil)) (pe_ifExp (pt_cmpR (op_neD hr.units) (pv 1) (pe_lst pa_nil) (nomark _)) (pe_op op_add_str pe_str (pe_join pe_str (pe_lc (own := [("row", 2)]) (g := gName 2) (tt := tYes) (te := tCB (fun xs H Q => ∃ i, xs = [.int i] ∧ i.natAbs.log2 < 1920 ∧ Q (.str (toString i)) H) (tCons (tVar 2) tNil)) rfl scIs.nd (pi_list (pv 1)) (blkOk_by (own := [("row", 2)]) (N := ["mend", "due", "row"]) (sc := defScope sIs) (by decide +kernel)) (fun _ _ _ _ _ => (pg_name (i := 2) scIs.nd rfl (Or.inl rfl))) (fun _ _ _ _ _ => pts_nil) (fun _ _ _ _ _ => (pe_callTy call_str_int (by rfl) L.ustr PyProof.Rows.boot_str (pa_cons (pv 2) pa_nil)))))) pe_str) (nomark _)) (pss_one (ps_ret pe_bl)) pss_nil)
      (C8.pss_cut (ps_for PassesOwn.never rfl (pi_list (pv 1)) (pg_name (i := 2) scIs.nd rfl (Or.inl rfl)) (pss_one (ps_if (PW.pt (pw_or (pt_cmpR (op_notInO L.oIn L.gIn (hr.mono (by decide)) (E := E0) pass0) (pv 2) (pv 0) (by rfl)) (pw_or (pt_cmpR (op_inO L.oIn L.gIn (hr.mono (by decide)) (E := E0) pass0) (pe_op op_add (pv 2) (pe_op op_pow pe_int pe_int)) (pv 0) (by rfl)) (pw_or (pt_cmpR (op_inO L.oIn L.gIn (hr.mono (by decide)) (E := E0) pass0) (pe_callTy call_str_int (by rfl) L.ustr PyProof.Rows.boot_str (pa_cons (pv 2) pa_nil)) (pv 0) (by rfl)) (pw_or (pt_cmpR (op_inO L.oIn L.gIn (hr.mono (by decide)) (E := E0) pass0) (pe_tup (pa_cons (pv 2) pa_nil)) (pv 0) (by rfl)) (pw_or1 (pt_cmpR (op_inO L.oIn L.gIn (hr.mono (by decide)) (E := E0) pass0) (pe_lst (pa_cons (pv 2) pa_nil)) (pv 0) (by rfl)))))))) (pss_one (ps_ret pe_bl)) pss_nil)))
      (pss_one (ps_ret (pe_and (pe_cmpR (op_notInO L.oIn L.gIn (hr.mono (by decide)) (E := E0) pass0) pe_bl (pv 0) (by rfl)) (pe_and (pe_cmpR (op_notInO L.oIn L.gIn (hr.mono (by decide)) (E := E0) pass0) pe_bl (pv 0) (by rfl)) (pe_and (pe_cmpR (op_notInO L.oIn L.gIn (hr.mono (by decide)) (E := E0) pass0) pe_non (pv 0) (by rfl)) (pe_one (pe_cmpR (op_notInO L.oIn L.gIn (hr.mono (by decide)) (E := E0) pass0) (pe_un un_neg pe_int) (pv 0) (by rfl)))))))))))), ?_⟩
  obtain ⟨dx, t, h1, h2⟩ := id hm
  have T := L.T
  have he : ([] : List PyData) = ([] : List Int).map PyData.int := rfl
  -- rows, list, len
  refine ⟨fun σ H1 => σ = [some (.ref a), some (.ref d), none] ∧ Same H H1, ?_, ?_⟩
  · refine ⟨_, rfl, a, C, dx, _, _, rfl, h1, T.cl, T.nR, rfl, .ref t, .ty "tuple", _, _, true, rfl, .ty _, ty_tup (SqT.of h2), kit_ty (by decide +kernel), _, rfl, if_no rfl ?_⟩
    refine ⟨_, rfl, a, C, dx, _, _, rfl, h1, T.cl, T.nR, rfl, t, _, rfl, .inr (SqT.of h2), fun l nl => ?_⟩
    have s1 : Same H (upd H l (.lst (rs.map V.int))) := same_new nl
    refine ⟨_, rfl, .list (rs.map PyData.int), .list (rs.map PyData.int), .lst (SqL.of upd_same) (dp_ints _), .lst (SqL.of (s1 _ _ hd)) (dp_ints _), sh_lst _, sh_lst _, _, rfl, if_no (by rw [eqv_lst, decide_eq_true rfl]; rfl) ?_⟩
    refine ⟨_, rfl, a, dx, _, rfl, s1 _ _ h1, a, rs, rfl, hm.same s1, _, rfl, by omega, ?_, _, rfl, d, _, rfl, .inl (SqL.of (s1 _ _ hd)), rfl, _, rfl, if_no (ne_no (by rw [List.length_map])) ⟨rfl, s1⟩⟩
    have := R.l
    omega
  rintro σ H1 ⟨rfl, s1⟩
  have h11 := s1 _ _ h1
  have h21 := s1 _ _ h2
  have hd1 := s1 _ _ hd
  have hm1 := hm.same s1
  -- no bools, truth
  refine ⟨fun σ H2 => σ = [some (.ref a), some (.ref d), none] ∧ Same H1 H2, ?_, ?_⟩
  · refine ⟨_, rfl, a, C, dx, _, _, rfl, h11, T.cl, T.nR, rfl, t, rfl, ⟨_, SqT.of h21⟩, fun D nD => ?_⟩
    refine loop_it (walk_tup (K := K) (a := t) (xs := rs.map V.int)) (fun i H3 => H3 D = some (.lst []) ∧ Same H1 H3) ⟨upd_same, same_new nD⟩ (fun i H3 _ z => SqT.of (z.2 _ _ h21)) ?_ ?_
    · rintro i v H3 H4 hi ⟨hD, s3⟩ ⟨rfl, hv⟩
      rw [List.getElem?_map] at hv
      obtain ⟨z, hz, rfl⟩ := Option.map_eq_some_iff.mp hv
      exact ⟨rfl, _, rfl, .int z, .ty "bool", _, _, false, rfl, .ty _, .base (.int z), kit_ty (by decide +kernel), _, rfl, if_no rfl ⟨hD, s3⟩⟩
    rintro H3 ⟨hD, s3⟩
    unfold tNil
    refine ⟨Nat.zero_le _, fun e ne => ?_⟩
    have s4 := s3.trans (same_new (o := .lst []) ne)
    refine ⟨.list [], .list [], .lst (xs := []) (SqL.of (same_new ne _ _ hD)) .nil, .lst (xs := []) (SqL.of upd_same) .nil, by decide +kernel, by decide +kernel, _, rfl, if_no (by decide +kernel) ?_⟩
    refine ⟨_, rfl, a, dx, _, rfl, s4 _ _ h11, a, rs, rfl, hm1.same s4, ⟨_, rfl⟩, _, rfl, ?_⟩
    refine ⟨Nat.zero_le _, fun e2 ne2 => ?_⟩
    have s5 := s4.trans (same_new (o := .lst []) ne2)
    refine ⟨.list (rs.map PyData.int), .list [], .lst (SqL.of (s5 _ _ hd1)) (dp_ints _), .lst (xs := []) (SqL.of upd_same) .nil, sh_lst _, by decide +kernel, ?_⟩
    rw [eqv_e]
    refine ⟨rfl, _, rfl, if_no (ne_no ?_) ⟨rfl, s5⟩⟩
    cases rs with
    | nil => rfl
    | cons x r => rfl
  rintro σ H2 ⟨rfl, s2⟩
  have h12 := s2 _ _ h11
  have hd2 := s2 _ _ hd1
  have hm2 := hm1.same s2
  -- the text
  refine ⟨fun σ H3 => σ = [some (.ref a), some (.ref d), none] ∧ Same H2 H3, ?_, ?_⟩
  · refine ⟨_, rfl, a, dx, _, rfl, h12, a, rs, rfl, hm2, R.l, (fun z hz => (R.n z hz).sm), fun H3 s3 => ⟨_, rfl, ?_⟩⟩
    refine ⟨_, rfl, ?_⟩
    unfold tNil
    refine ⟨Nat.zero_le _, fun e ne => ?_⟩
    have s4 := s3.trans (same_new (o := .lst []) ne)
    refine ⟨.list (rs.map PyData.int), .list [], .lst (SqL.of (s4 _ _ hd2)) (dp_ints _), .lst (xs := []) (SqL.of upd_same) .nil, sh_lst _, by decide +kernel, _, rfl, ?_⟩
    rw [eqv_e]
    by_cases hz : rs = []
    · rw [decide_eq_true hz]
      refine ⟨rfl, _, rfl, if_no (ne_no ?_) ⟨rfl, s4⟩⟩
      unfold mdTx
      rw [if_pos hz]
    · rw [decide_eq_false hz]
      refine ⟨⟨_, rfl⟩, _, rfl, d, rfl, ⟨_, SqL.of (s4 _ _ hd2)⟩, fun D nD => ?_⟩
      refine loop_it (walk_list (K := K) (a := d) (xs := rs.map V.int)) (fun i H5 => H5 D = some (.lst (((rs.take i).map numS).map V.str)) ∧ Same H2 H5) ⟨upd_same, s4.trans (same_new nD)⟩ (fun i H5 _ z => SqL.of (z.2 _ _ hd2)) ?_ ?_
      · rintro i v H5 H6 hi ⟨hD, s5⟩ ⟨rfl, hv⟩
        rw [List.getElem?_map] at hv
        obtain ⟨z, hz, rfl⟩ := Option.map_eq_some_iff.mp hv
        have li : i < rs.length := (List.getElem?_eq_some_iff.mp hz).1
        have := R.l
        refine ⟨rfl, _, rfl, z, rfl, (R.n z (List.mem_of_getElem? hz)).sm.log, _, hD, ?_, ?_, fun b o q => ?_⟩
        · rw [List.length_map, List.length_map, List.length_take, sizeLine_eq]
          omega
        · rw [upd_same, List.take_add_one, hz, Option.toList_some, List.map_append, List.map_append]
          rfl
        · rw [upd_ne (ne_of_none (s4 _ _ q) nD)]
          exact s5 _ _ q
      · rintro H5 ⟨hD, s5⟩
        rw [List.length_map, List.take_length] at hD
        have b1 := sum_num fun z hz => (R.n z hz).sm
        have b2 : (", " : Str).length = 2 := by decide +kernel
        have b3 := R.l
        have b4 : ("rows " : Str).length = 5 := by decide +kernel
        have b5 := join_len ", " (rs.map numS)
        rw [b2, List.length_map] at b5
        have sl : sizeLine = 16777216 := sizeLine_eq
        refine ⟨", ", D, rs.map numS, rfl, rfl, .inl (SqL.of hD), by rw [List.length_map, b2]; omega, _, _, rfl, rfl, by rw [b4]; omega, rfl, _, rfl, if_no (ne_no ?_) ⟨rfl, s5⟩⟩
        unfold mdTx
        rw [if_neg hz]
        rfl
  rintro σ H3 ⟨rfl, s3⟩
  have h13 := s3 _ _ h12
  have hd3 := s3 _ _ hd2
  have hm3 := hm2.same s3
  -- each row
  refine ⟨fun σ H4 => ∃ x2 : Option V, σ = [some (.ref a), some (.ref d), x2] ∧ Same H3 H4, ?_, ?_⟩
  · refine ⟨_, rfl, d, rfl, ⟨_, SqL.of hd3⟩, ?_⟩
    refine for_it (walk_list (K := K) (a := d) (xs := rs.map V.int)) (fun i σ H4 => ∃ x2 : Option V, σ = [some (.ref a), some (.ref d), x2] ∧ Same H3 H4) ⟨none, rfl, Same.refl _⟩ (fun i σ H4 _ z => by obtain ⟨_, _, z⟩ := z; exact SqL.of (z _ _ hd3)) ?_ ?_
    · rintro i v σ H4 H5 hi ⟨x2, rfl, s4⟩ ⟨rfl, hv⟩
      rw [List.getElem?_map] at hv
      obtain ⟨z, hz, rfl⟩ := Option.map_eq_some_iff.mp hv
      have mz := List.mem_of_getElem? hz
      have nz := R.n z mz
      have hm5 := hm3.same s4
      have far : rs.contains (z + 10 ^ 21) = false := by
        rw [Bool.eq_false_iff]
        intro c
        have m := R.n _ (List.contains_iff_mem.mp c)
        have e1 : (10 : Int) ^ 21 = 1000000000000000000000 := by decide
        have e2 : (10 : Int) ^ 20 = 100000000000000000000 := by decide
        have := m.2
        have := nz.1
        omega
      refine ⟨_, rfl, _, rfl, a, dx, _, rfl, s4 _ _ h13, a, rs, .int z, rfl, hm5, .inl ⟨z, rfl, _, rfl, _, rfl, if_no (by rw [List.contains_iff_mem.mpr mz]; rfl) ?_⟩⟩
      refine ⟨_, rfl, _, _, rfl, rfl, ⟨by decide, by decide, by decide⟩, _, _, rfl, rfl, _, rfl, a, dx, _, rfl, s4 _ _ h13, a, rs, _, rfl, hm5, .inl ⟨z + 10 ^ 21, rfl, _, rfl, _, rfl, if_no far ?_⟩⟩
      refine ⟨_, rfl, z, rfl, nz.sm.log, _, rfl, a, dx, _, rfl, s4 _ _ h13, a, rs, _, rfl, hm5, .inr ⟨"str", false, false, .base (.str _), by decide +kernel, by decide +kernel, rfl, _, rfl, _, rfl, if_no rfl ?_⟩⟩
      refine ⟨_, rfl, (by show 1 ≤ sizeLine; decide), fun p np => ?_⟩
      have s6 := s4.trans (same_new (o := .tup [V.int z]) np)
      refine ⟨_, rfl, a, dx, _, rfl, s6 _ _ h13, a, rs, _, rfl, hm3.same s6, .inr ⟨"tuple", false, false, ty_tup (xs := [V.int z]) (SqT.of upd_same), by decide +kernel, by decide +kernel, rfl, _, rfl, _, rfl, if_no rfl ?_⟩⟩
      refine ⟨_, rfl, (by show 1 ≤ sizeLine; decide), fun q nq => ?_⟩
      have s7 := s6.trans (same_new (o := .lst [V.int z]) nq)
      exact ⟨_, rfl, a, dx, _, rfl, s7 _ _ h13, a, rs, _, rfl, hm3.same s7, .inr ⟨"list", false, false, ty_list (xs := [V.int z]) (SqL.of upd_same), by decide +kernel, by decide +kernel, rfl, _, rfl, _, rfl, if_no rfl ⟨_, rfl, s7⟩⟩⟩
    · rintro σ H4 z
      exact z
  rintro σ H4 ⟨x2, rfl, s4⟩
  have h14 := s4 _ _ h13
  have hm4 := hm3.same s4
  have neg : rs.contains (-1) = false := by
    rw [Bool.eq_false_iff]
    intro c
    have m := R.n _ (List.contains_iff_mem.mp c)
    exact absurd m.1 (by decide)
  refine ⟨_, rfl, a, dx, _, rfl, h14, a, rs, _, rfl, hm4, .inr ⟨"bool", true, true, .base (.bl _), by decide +kernel, by decide +kernel, rfl, _, rfl, _, rfl, iteT ?_⟩⟩
  refine ⟨_, rfl, a, dx, _, rfl, h14, a, rs, _, rfl, hm4, .inr ⟨"bool", true, true, .base (.bl _), by decide +kernel, by decide +kernel, rfl, _, rfl, _, rfl, iteT ?_⟩⟩
  refine ⟨_, rfl, a, dx, _, rfl, h14, a, rs, _, rfl, hm4, .inr ⟨"NoneType", false, false, .base .non, by decide +kernel, by decide +kernel, rfl, _, rfl, _, rfl, iteT ?_⟩⟩
  refine ⟨_, rfl, _, rfl, a, dx, _, rfl, h14, a, rs, _, rfl, hm4, .inl ⟨-1, rfl, _, rfl, ?_⟩⟩
  rw [neg]
  exact k _ (s1.trans (s2.trans (s3.trans s4)))
end
end Lq


set_option Elab.async false
set_option linter.all false
set_option maxRecDepth 100000
set_option maxHeartbeats 8000000
/-! o == v, v any data -/
namespace L2.LqX
open PySem PySem.Spec PyProof.Rows L2
section
variable {X : Cx} {CX : CXT} {k : Nat} {g C : Addr} {sp : Sp} {E : XK}
/-- o == v by the own ==, v any data -/
def rEqAny (K : PySem.W.Frag) (C : Addr) (sp : Sp) (E : XK) : R2 := fun x y H Q => ∃ (a dx : Addr) (fs : List (Str × V)) (d : PyData), x = .ref a ∧ H a = some (.ins C dx fs) ∧ Dp K H y d ∧ sp [x, y] H (fun v H' => (∃ t, v = .bl t) ∧ Q v H') E
theorem op_eqAny (m : OwnM X.K C "__eq__" g) (F : FnR X.prog X.w X.K X.mg X.base CX k g sp) (hr : Room k X.A) (hx : Passes CX X E) : OpR X (compareOp .Eq) (rEqAny X.K C sp E) := by
  intro pins s σ H x y v u Q I rx ry ⟨a, dx, fs, d, ex, e, hy, q⟩
  subst ex
  obtain rfl : v = Value.ref a := rx
  obtain ⟨ox, od, J⟩ := ins_at I e
  obtain ⟨m0, F0⟩ := I.fr
  have run := run_at (us := [.ref a, u]) (vs := [.ref a, y]) F hr I.env0 hx I (.cons rfl (.cons ry .nil)) q
  have fin : wpAny (model X.prog X.w) X.A (call (.ref g) [.ref a, u]) (PySem.W.CmpBack (EP X pins σ Q)) X.xe s := by
    refine wpAny_mono run (fun v s' hv => ?_) fun _ _ z => z
    obtain ⟨z, H', I', rz, ⟨t, rfl⟩, q'⟩ := hv
    obtain rfl : v = Value.bool t := rz
    exact ⟨.bl t, H', I', rfl, q'⟩
  unfold compareOp
  cases hy with
  | non =>
    obtain rfl : u = Value.none := ry
    exact PySem.W.cmp_K (op := .Eq) (tb := .type "NoneType") (hr.units0) F0 I.mod.kin J (PySem.W.Looks.of_pure rfl) (by rfl) m.at_ m.fn fin
  | bl b =>
    obtain rfl : u = Value.bool b := ry
    exact PySem.W.cmp_K (op := .Eq) (tb := .type "bool") (hr.units0) F0 I.mod.kin J (PySem.W.Looks.of_pure rfl) (by rfl) m.at_ m.fn fin
  | int i =>
    obtain ⟨t, rfl⟩ : ∃ t, u = .int i t := ry
    exact PySem.W.cmp_K (op := .Eq) (tb := .type "int") (hr.units0) F0 I.mod.kin J (PySem.W.Looks.of_pure rfl) (by rfl) m.at_ m.fn fin
  | str z =>
    obtain ⟨t, rfl⟩ : ∃ t, u = .str z t := ry
    exact PySem.W.cmp_K (op := .Eq) (tb := .type "str") (hr.units0) F0 I.mod.kin J (PySem.W.Looks.of_pure rfl) (by rfl) m.at_ m.fn fin
  | @lst b xs ds hq _ =>
    obtain rfl : u = Value.ref b := ry
    obtain ⟨its, rv, p, hz⟩ := I.list hq
    obtain ⟨o, ho, hc, _⟩ := p.isList
    refine PySem.W.cmp_K (op := .Eq) (tb := .type "list") (hr.units0) F0 I.mod.kin J ?_ (by rfl) m.at_ m.fn fin
    rw [← hc]
    exact (PySem.W.Looks.ld (part := none) ho).andThen .now
  | @tup b xs ds hq _ =>
    obtain rfl : u = Value.ref b := ry
    obtain ⟨its, rv, ⟨o, ho, hc, _⟩, _⟩ := I.tuple hq
    refine PySem.W.cmp_K (op := .Eq) (tb := .type "tuple") (hr.units0) F0 I.mod.kin J ?_ (by rfl) m.at_ m.fn fin
    rw [← hc]
    exact (PySem.W.Looks.ld (part := none) ho).andThen .now
end
end L2.LqX


set_option Elab.async false
set_option linter.all false
set_option maxRecDepth 100000
set_option maxHeartbeats 16000000
namespace Lq
open PySem L2 L2.LqX
abbrev sR : Stmt := topS 13
abbrev NR : List Str := ["bag", "first", "second", "one", "other", "due", "more", "either", "both", "joined", "common", "alias", "kept", "row"]
theorem scR : FnScope NR ["bag"] (defScope sR) := ⟨rfl, rfl, rfl, by decide +kernel, rfl, by decide +kernel, by decide +kernel⟩
/-- what right calls -/
structure RF (P : Program) (w : World) (K : PySem.W.Frag) (mg : Str → Option Value) (base : Heap) (C fW fD fM fI fMk fEq fOr fAn fIo : Addr) (dW dD dM dI : FuncData) : Prop where
  T : MdF K mg C
  gW : FnOk P w K mg base CX0 3 fW dW ["bag"] spDrawn
  bW : Binds K dW ["bag"] []
  kW : PySem.W.keepIn K (.ref fW) = true
  mW : mg "_law_drawn" = some (.ref fW)
  gD : FnOk P w K mg base CX0 1 fD dD ["bag", "many"] spDraw
  bD : Binds K dD ["bag", "many"] []
  kD : PySem.W.keepIn K (.ref fD) = true
  mD : mg "_law_draw" = some (.ref fD)
  gM : FnOk P w K mg base CX0 4 fM dM ["some"] (spMade C)
  bM : Binds K dM ["some"] []
  kM : PySem.W.keepIn K (.ref fM) = true
  mM : mg "_law_made" = some (.ref fM)
  gI : FnOk P w K mg base CX0 5 fI dI ["mend", "due"] (spIs C)
  bI : Binds K dI ["mend", "due"] []
  kI : PySem.W.keepIn K (.ref fI) = true
  mI : mg "_law_is" = some (.ref fI)
  mkr : Mk K C fMk
  gMk : FnR P w K mg base CX0 2 fMk (spMk C)
  oEq : OwnM K C "__eq__" fEq
  gEq : FnR P w K mg base CX0 1 fEq (spEq K C)
  hNe : PySem.W.findIn K (.ref C) "__ne__" = some (some (.builtin "object.__ne__"))
  oOr : OwnM K C (PySem.dunder Operator.BitOr.info.2) fOr
  gOr : FnR P w K mg base CX0 4 fOr (spOr C)
  oAn : OwnM K C (PySem.dunder Operator.BitAnd.info.2) fAn
  gAn : FnR P w K mg base CX0 4 fAn (spAnd C)
  oIo : OwnM K C (PySem.dunderI Operator.BitOr.info.2) fIo
  gIo : FnR P w K mg base CX0 2 fIo (spIor C)
  hT : PySem.W.kitOne K (.type "list") (.ref C) = some false
  hU : PySem.W.kitOne K (.type "tuple") (.ref C) = some false
  ulen : mg "len" = none
  ulist : mg "list" = none
  usorted : mg "sorted" = none
  uset : mg "set" = none
def spR : Sp := fun vs H Q _ => ∃ (a : Addr) (g c s : Int), vs = [.ref a] ∧ H a = some (.lst (bagL g c s)) ∧ Bag g c s ∧ c + 40 < 1000 ∧ ∀ H', But a H H' → Q (.bl true) H'
theorem cut_to (xs : List V) (m : Nat) : cutV xs none (some (m : Int)) = xs.take m := by
  unfold cutV
  have e0 : HT.sIx xs.length 0 none = 0 := rfl
  rw [e0, HT.sIx_nat, List.drop_zero, Nat.sub_zero]
  by_cases h : m ≤ xs.length
  · rw [Nat.min_eq_left h]
  · rw [Nat.min_eq_right (by omega), List.take_length, List.take_of_length_le (by omega)]
/-- sorted(set(xs)) -/
theorem srt_go {K : PySem.W.Frag} {w : World} {H : Hp} {l : Addr} {zs : List Int} {Q : VK} (hl : H l = some (.lst (zs.map V.int))) (h60 : zs.length ≤ 60) (k : ∀ (p : Addr) (H' : Hp), Same H H' → H p = none → H' p = some (.lst ((asc zs).map V.int)) → Q (.ref p) H') : rSetI K w [.ref l] H fun y H2 => rSortedSet w [y] H2 Q := by
  refine ⟨l, zs, rfl, .inl (SqL.of hl), h60, fun a n na hn => ⟨a, _, n, rfl, upd_same, by omega, fun ns p pw mem ln np => ?_⟩⟩
  have e : ns = asc zs := pw_uniq pw (pw_asc zs) fun x => by
    rw [mem x, mem_asc]
    exact decide_eq_true_iff
  subst e
  exact k p _ ((same_new na).trans (same_new np)) ((same_new na).free np) upd_same
/-- what is drawn -/
structure Dr (zs : List Int) : Prop where
  l : zs.length ≤ 6
  n : ∀ z ∈ zs, Nt z
theorem rw_asc {zs : List Int} (l : zs.length ≤ 60) (n : ∀ z ∈ zs, Nt z) : Rw (asc zs) := ⟨Nat.le_trans (len_asc zs) l, fun z hz => n z (mem_asc.mp hz)⟩
/-- the lists and mends -/
structure Gx (C l1 l2 o1 o2 d m : Addr) (f s R1 : List Int) (H : Hp) : Prop where
  f_ : H l1 = some (.lst (f.map V.int))
  s_ : H l2 = some (.lst (s.map V.int))
  one : IsMd C H o1 R1
  two : IsMd C H o2 (asc s)
  due : H d = some (.lst ((asc f).map V.int))
  more : H m = some (.lst ((asc s).map V.int))
structure Jx (C e b j k : Addr) (E B RJ : List Int) (H : Hp) : Prop where
  ei : H e = some (.lst (E.map V.int))
  bo : H b = some (.lst (B.map V.int))
  jn : IsMd C H j RJ
  cm : IsMd C H k B
theorem Gx.same {C l1 l2 o1 o2 d m : Addr} {f s R1 : List Int} {H H' : Hp} (h : Gx C l1 l2 o1 o2 d m f s R1 H) (e : Same H H') : Gx C l1 l2 o1 o2 d m f s R1 H' := ⟨e _ _ h.f_, e _ _ h.s_, h.one.same e, h.two.same e, e _ _ h.due, e _ _ h.more⟩
theorem Jx.same {C e b j k : Addr} {E B RJ : List Int} {H H' : Hp} (h : Jx C e b j k E B RJ H) (q : Same H H') : Jx C e b j k E B RJ H' := ⟨q _ _ h.ei, q _ _ h.bo, h.jn.same q, h.cm.same q⟩
theorem lst_ne {C : Addr} {H : Hp} {x y : Addr} {us : List V} {rs : List Int} (h : H x = some (.lst us)) (m : IsMd C H y rs) : x ≠ y := fun e => by
  obtain ⟨dx, t, h1, _⟩ := m
  rw [e, h1] at h
  cases h
theorem md_tup {C : Addr} {H : Hp} {y : Addr} {rs : List Int} (m : IsMd C H y rs) : ∀ us, H y ≠ some (.tup us) := fun us e => by
  obtain ⟨dx, t, h1, _⟩ := m
  rw [h1] at e
  cases e
/-- one mend is changed -/
theorem Gx.but1 {C l1 l2 o1 o2 d m : Addr} {f s R1 R2 : List Int} {H H' : Hp} (h : Gx C l1 l2 o1 o2 d m f s R1 H) (n : o2 ≠ o1) (e : But o1 H H') (hn : IsMd C H' o1 R2) : Gx C l1 l2 o1 o2 d m f s R2 H' :=
  ⟨e _ _ h.f_ (lst_ne h.f_ h.one), e _ _ h.s_ (lst_ne h.s_ h.one), hn, h.two.but e n (md_tup h.one), e _ _ h.due (lst_ne h.due h.one), e _ _ h.more (lst_ne h.more h.one)⟩
theorem Jx.but1 {C e b j k o1 : Addr} {E B RJ R1 : List Int} {H H' : Hp} (h : Jx C e b j k E B RJ H) (ho : IsMd C H o1 R1) (n1 : j ≠ o1) (n2 : k ≠ o1) (q : But o1 H H') : Jx C e b j k E B RJ H' :=
  ⟨q _ _ h.ei (lst_ne h.ei ho), q _ _ h.bo (lst_ne h.bo ho), h.jn.but q n1 (md_tup ho), h.cm.but q n2 (md_tup ho)⟩
theorem Gx.butJ {C l1 l2 o1 o2 d m j : Addr} {f s R1 RJ : List Int} {H H' : Hp} (h : Gx C l1 l2 o1 o2 d m f s R1 H) (hj : IsMd C H j RJ) (n1 : o1 ≠ j) (n2 : o2 ≠ j) (e : But j H H') : Gx C l1 l2 o1 o2 d m f s R1 H' :=
  ⟨e _ _ h.f_ (lst_ne h.f_ hj), e _ _ h.s_ (lst_ne h.s_ hj), h.one.but e n1 (md_tup hj), h.two.but e n2 (md_tup hj), e _ _ h.due (lst_ne h.due hj), e _ _ h.more (lst_ne h.more hj)⟩
theorem IsMd.ne {C : Addr} {H : Hp} {a b : Addr} {rs : List Int} (h : IsMd C H a rs) (nb : H b = none) : b ≠ a := fun e => by
  obtain ⟨dx, t, h1, _⟩ := h
  rw [e, h1] at nb
  cases nb
theorem But.same {a : Addr} {H H1 H2 : Hp} (h : But a H H1) (e : Same H1 H2) : But a H H2 := fun p o z n => e _ _ (h p o z n)
theorem But.new {a b : Addr} {H H1 H2 : Hp} (h : But a H H1) (e : But b H1 H2) (nb : H b = none) : But a H H2 := fun p o z n => e _ _ (h p o z n) (ne_of_none z nb)
theorem mk_t0 {C : Addr} {σ : St} {H : Hp} {Q : VK} (k : ∀ (x : Addr) (H' : Hp), Same H H' → H x = none → IsMd C H' x (asc []) → Q (.ref x) H') : StX.tMakeR C (spMk C) E0 tNil σ H Q := by
  unfold StX.tMakeR tNil
  exact mk_new (zs := []) (by decide) k
theorem mk_t1 {C : Addr} {σ : St} {H : Hp} {Q : VK} (k : ∀ (x : Addr) (H' : Hp), Same H H' → H x = none → IsMd C H' x (asc [7]) → Q (.ref x) H') : StX.tMakeR C (spMk C) E0 (tCons (tC (.int 7)) tNil) σ H Q := by
  unfold StX.tMakeR tNil tCons tC
  exact mk_new (zs := [7]) (by decide) k
section
variable {P : Program} {w : World} {K : PySem.W.Frag} {mg : Str → Option Value} {base : Heap}
theorem ok_right {f C fW fD fM fI fMk fEq fOr fAn fIo : Addr} {fd dW dD dM dI : FuncData} (F : Fun K "_law_is_right" "_law_is_right" sR f fd) (L : RF P w K mg base C fW fD fM fI fMk fEq fOr fAn fIo dW dD dM dI) : FnOk P w K mg base CX0 7 f fd ["bag"] spR := by
  refine F.ok scR (fun vs H Q E h => ?_) (fun cdv A outer s H vs Q E hr h => ?_)
  · obtain ⟨_, _, _, _, rfl, _⟩ := h
    rfl
  obtain ⟨a, g, c, sd, rfl, ha, Bg, hc, kq⟩ := h
  refine ⟨_, (C8.pss_cut (ps_par (i := 1) (j := 2) rfl scR.nd rfl rfl (by decide) rfl rfl (pa_cons (pe_call L.gW (hr.mono (by decide)) (by rfl) L.mW L.kW L.bW .nil pass0 (pa_cons (pv 0) pa_nil)) (pa_cons (pe_call L.gW (hr.mono (by decide)) (by rfl) L.mW L.kW L.bW .nil pass0 (pa_cons (pv 0) pa_nil)) pa_nil)) (by rfl))
      (C8.pss_cut (ps_set (i := 2) scR.nd rfl (Or.inl rfl) (pe_ifExp (PW.pt (pw_and (pt_cmpR op_eq (pe_call L.gD (hr.mono (by decide)) (by rfl) L.mD L.kD L.bD .nil pass0 (pa_cons (pv 0) (pa_cons pe_int pa_nil))) pe_int (nomark _)) (pw_and1 (pt_cmpR op_lt (pe_callB call_len_seq (by rfl) L.ulen PySem.boot_len (pa_cons (pv 2) pa_nil)) pe_int (nomark _))))) (pe_op op_cat (pv 2) (pe_slice sl_list (pv 1) po_none (po_some pe_int))) (pv 2)))
      (C8.pss_cut (ps_set (i := 2) scR.nd rfl (Or.inl rfl) (pe_ifExp (pt_cmpR op_eq (pe_call L.gD (hr.mono (by decide)) (by rfl) L.mD L.kD L.bD .nil pass0 (pa_cons (pv 0) (pa_cons pe_int pa_nil))) pe_int (nomark _)) (pe_callTy call_list_of (by rfl) L.ulist PyProof.Rows.boot_list (pa_cons (pv 1) pa_nil)) (pv 2)))
      (C8.pss_cut (ps_par (i := 3) (j := 4) rfl scR.nd rfl rfl (by decide) rfl rfl (pa_cons (pe_call L.gM (hr.mono (by decide)) (by rfl) L.mM L.kM L.bM .nil pass0 (pa_cons (pv 1) pa_nil)) (pa_cons (pe_call L.gM (hr.mono (by decide)) (by rfl) L.mM L.kM L.bM .nil pass0 (pa_cons (pv 2) pa_nil)) pa_nil)) (by rfl))
      (C8.pss_cut (ps_asg (pe_tup (pa_cons (pe_callB (cr_sortedSet rfl) (by rfl) L.usorted PyProof.Rows.boot_sorted (pa_cons (pe_callTy (cr_setI rfl) (by rfl) L.uset PyProof.Rows.boot_set (pa_cons (pv 1) pa_nil)) pa_nil)) (pa_cons (pe_callB (cr_sortedSet rfl) (by rfl) L.usorted PyProof.Rows.boot_sorted (pa_cons (pe_callTy (cr_setI rfl) (by rfl) L.uset PyProof.Rows.boot_set (pa_cons (pv 2) pa_nil)) pa_nil)) pa_nil))) (pg_tup rfl (pgs_cons (pg_name (i := 5) scR.nd rfl (Or.inl rfl)) (pgs_cons (pg_name (i := 6) scR.nd rfl (Or.inr rfl)) pgs_nil))))
      (C8.pss_cut (ps_if (PW.pt (pw_or (pt_not (pt_val (pe_call L.gI (hr.mono (by decide)) (by rfl) L.mI L.kI L.bI .nil pass0 (pa_cons (pv 3) (pa_cons (pv 5) pa_nil))))) (pw_or (pt_not (pt_val (pe_call L.gI (hr.mono (by decide)) (by rfl) L.mI L.kI L.bI .nil pass0 (pa_cons (pv 4) (pa_cons (pv 6) pa_nil))))) (pw_or1 (pt_cmpR op_ne (pe_cmpR (op_eqO L.oEq L.gEq (hr.mono (by decide)) (E := E0) pass0) (pv 3) (pv 4) (nomark _)) (pe_cmpR (op_eqD hr.units) (pv 5) (pv 6) (nomark _)) (nomark _)))))) (pss_one (ps_ret pe_bl)) pss_nil)
      (C8.pss_cut (ps_par (i := 7) (j := 8) rfl scR.nd rfl rfl (by decide) rfl rfl (pa_cons (pe_callB (cr_sortedSet rfl) (by rfl) L.usorted PyProof.Rows.boot_sorted (pa_cons (pe_callTy (cr_setI rfl) (by rfl) L.uset PyProof.Rows.boot_set (pa_cons (pe_op op_cat (pv 1) (pv 2)) pa_nil)) pa_nil)) (pa_cons (pe_lc (own := [("row", 13)]) (g := gName 13) (tt := tTest (tOp (rIn K false) (tVar 13) (tVar 6))) (te := tVar 13) rfl scR.nd (pi_list (pv 5)) (blkOk_by (own := [("row", 13)]) (N := NR) (sc := defScope sR) (by decide +kernel)) (fun _ _ _ _ _ => (pg_name (i := 13) scR.nd rfl (Or.inl rfl))) (fun _ _ _ _ _ => pts_one (pt_cmpR op_in_seq (pv 13) (pv 6) (by rfl))) (fun _ _ _ _ _ => pv 13)) pa_nil)) (by rfl))
      (C8.pss_cut (ps_par (i := 9) (j := 10) rfl scR.nd rfl rfl (by decide) rfl rfl (pa_cons (pe_op (op_binO (op := .BitOr) L.oOr L.T.sf L.gOr (hr.mono (by decide)) (E := E0) pass0) (pv 3) (pv 4)) (pa_cons (pe_op (op_binO (op := .BitAnd) L.oAn L.T.sf L.gAn (hr.mono (by decide)) (E := E0) pass0) (pv 3) (pv 4)) pa_nil)) (by rfl))
      (C8.pss_cut (ps_if (PW.pt (pw_or (pt_not (pt_val (pe_call L.gI (hr.mono (by decide)) (by rfl) L.mI L.kI L.bI .nil pass0 (pa_cons (pv 9) (pa_cons (pv 7) pa_nil))))) (pw_or (pt_not (pt_val (pe_call L.gI (hr.mono (by decide)) (by rfl) L.mI L.kI L.bI .nil pass0 (pa_cons (pv 10) (pa_cons (pv 8) pa_nil))))) (pw_or (pt_not (pt_val (pe_call L.gI (hr.mono (by decide)) (by rfl) L.mI L.kI L.bI .nil pass0 (pa_cons (pv 3) (pa_cons (pv 5) pa_nil))))) (pw_or1 (pt_not (pt_val (pe_call L.gI (hr.mono (by decide)) (by rfl) L.mI L.kI L.bI .nil pass0 (pa_cons (pv 4) (pa_cons (pv 6) pa_nil)))))))))) (pss_one (ps_ret pe_bl)) pss_nil)
      (C8.pss_cut (ps_if (PW.pt (pw_or (pt_cmpR (op_eqAny L.oEq L.gEq (hr.mono (by decide)) (E := E0) pass0) (pv 3) (pv 5) (nomark _)) (pw_or (pt_cmpR (op_eqAny L.oEq L.gEq (hr.mono (by decide)) (E := E0) pass0) (pv 3) (pe_fld (pv 3) rfl) (nomark _)) (pw_or (pt_cmpR (op_neO L.oEq L.hNe L.T.cm L.gEq (hr.mono (by decide)) (E := E0) pass0) (pv 3) (pe_call L.gM (hr.mono (by decide)) (by rfl) L.mM L.kM L.bM .nil pass0 (pa_cons (pe_revL (pv 1)) pa_nil)) (nomark _)) (pw_or1 (pt_cmpR (op_neO L.oEq L.hNe L.T.cm L.gEq (hr.mono (by decide)) (E := E0) pass0) (pe_op (op_binO (op := .BitOr) L.oOr L.T.sf L.gOr (hr.mono (by decide)) (E := E0) pass0) (pv 3) (pv 4)) (pe_op (op_binO (op := .BitOr) L.oOr L.T.sf L.gOr (hr.mono (by decide)) (E := E0) pass0) (pv 4) (pv 3)) (nomark _))))))) (pss_one (ps_ret pe_bl)) pss_nil)
      (C8.pss_cut (ps_par (i := 11) (j := 12) rfl scR.nd rfl rfl (by decide) rfl rfl (pa_cons (pv 3) (pa_cons (pe_op (op_binO (op := .BitOr) L.oOr L.T.sf L.gOr (hr.mono (by decide)) (E := E0) pass0) (pv 3) (pe_makeR0 (E := E0) L.mkr L.gMk (hr.mono (by decide)) (by rfl) L.T.g pass0)) pa_nil)) (by rfl))
      (C8.pss_cut (ps_aug (i := 11) scR.nd rfl (Or.inl rfl) (pv 4) (pip_O (op := .BitOr) L.oIo L.T.sf L.gIo (hr.mono (by decide)) (E := E0) pass0))
      (C8.pss_cut (ps_if (PW.pt (pw_or (pt_not (pt_val (pe_call L.gI (hr.mono (by decide)) (by rfl) L.mI L.kI L.bI .nil pass0 (pa_cons (pv 3) (pa_cons (pv 7) pa_nil))))) (pw_or (pt_not (pt_val (pe_call L.gI (hr.mono (by decide)) (by rfl) L.mI L.kI L.bI .nil pass0 (pa_cons (pv 11) (pa_cons (pv 7) pa_nil))))) (pw_or (pt_not (pt_val (pe_call L.gI (hr.mono (by decide)) (by rfl) L.mI L.kI L.bI .nil pass0 (pa_cons (pv 4) (pa_cons (pv 6) pa_nil))))) (pw_or1 (pt_not (pt_val (pe_call L.gI (hr.mono (by decide)) (by rfl) L.mI L.kI L.bI .nil pass0 (pa_cons (pv 12) (pa_cons (pv 5) pa_nil)))))))))) (pss_one (ps_ret pe_bl)) pss_nil)
      (C8.pss_cut (ps_if (PW.pt (pw_or (pt_not (pt_cmpR (op_eqO L.oEq L.gEq (hr.mono (by decide)) (E := E0) pass0) (pv 11) (pv 3) (nomark _))) (pw_or (pt_cmpR (op_neO L.oEq L.hNe L.T.cm L.gEq (hr.mono (by decide)) (E := E0) pass0) (pv 11) (pv 9) (nomark _)) (pw_or (pt_not (pt_val (pe_call L.gI (hr.mono (by decide)) (by rfl) L.mI L.kI L.bI .nil pass0 (pa_cons (pv 9) (pa_cons (pv 7) pa_nil))))) (pw_or1 (pt_not (pt_val (pe_call L.gI (hr.mono (by decide)) (by rfl) L.mI L.kI L.bI .nil pass0 (pa_cons (pv 10) (pa_cons (pv 8) pa_nil)))))))))) (pss_one (ps_ret pe_bl)) pss_nil)
      (C8.pss_cut (ps_aug (i := 3) scR.nd rfl (Or.inl rfl) (pe_op (op_binO (op := .BitOr) L.oOr L.T.sf L.gOr (hr.mono (by decide)) (E := E0) pass0) (pv 3) (pe_makeR0 (E := E0) L.mkr L.gMk (hr.mono (by decide)) (by rfl) L.T.g pass0)) (pip_O (op := .BitOr) L.oIo L.T.sf L.gIo (hr.mono (by decide)) (E := E0) pass0))
      (C8.pss_cut (ps_aug (i := 9) scR.nd rfl (Or.inl rfl) (StX.pe_makeR (E := E0) L.mkr L.gMk (hr.mono (by decide)) (by rfl) L.T.g pass0 (pa_cons pe_int pa_nil)) (pip_O (op := .BitOr) L.oIo L.T.sf L.gIo (hr.mono (by decide)) (E := E0) pass0))
      (pss_one (ps_ret (pe_and (pe_call L.gI (hr.mono (by decide)) (by rfl) L.mI L.kI L.bI .nil pass0 (pa_cons (pv 3) (pa_cons (pv 7) pa_nil))) (pe_and (pe_call L.gI (hr.mono (by decide)) (by rfl) L.mI L.kI L.bI .nil pass0 (pa_cons (pv 9) (pa_cons (pe_callB (cr_sortedSet rfl) (by rfl) L.usorted PyProof.Rows.boot_sorted (pa_cons (pe_callTy (cr_setI rfl) (by rfl) L.uset PyProof.Rows.boot_set (pa_cons (pe_op op_cat (pv 7) (pe_lst (pa_cons pe_int pa_nil))) pa_nil)) pa_nil)) pa_nil))) (pe_one (pe_call L.gI (hr.mono (by decide)) (by rfl) L.mI L.kI L.bI .nil pass0 (pa_cons (pv 11) (pa_cons (pv 7) pa_nil)))))))))))))))))))))))), ?_⟩
  -- first, second
  refine ⟨fun σ H1 => ∃ (l1 l2 : Addr) (f s : List Int), σ = [some (.ref a), some (.ref l1), some (.ref l2), none, none, none, none, none, none, none, none, none, none, none] ∧ H1 l1 = some (.lst (f.map V.int)) ∧ H1 l2 = some (.lst (s.map V.int)) ∧ l1 ≠ a ∧ l2 ≠ a ∧ Dr f ∧ Dr s ∧ But a H H1 ∧ ∃ g1 c1, Bag g1 c1 sd ∧ c1 ≤ c + 16 ∧ H1 a = some (.lst (bagL g1 c1 sd)), ?_, ?_⟩
  · refine ⟨_, rfl, a, g, c, sd, rfl, ha, Bg, by omega, fun l1 f H1 h1 lf nf n1 ⟨g1, c1, B1, k1, a1, m1⟩ => ?_⟩
    have n1a : l1 ≠ a := Ne.symm (ne_of_none ha n1)
    refine ⟨_, rfl, a, g1, c1, sd, rfl, a1, B1, by omega, fun l2 s H2 h2 ls ns n2 ⟨g2, c2, B2, k2, a2, m2⟩ => ⟨_, _, rfl, l1, l2, f, s, rfl, m2 _ _ h1 n1a, h2, n1a, Ne.symm (ne_of_none a1 n2), ⟨lf, nf⟩, ⟨ls, ns⟩, fun p o z n => m2 p o (m1 p o z n) n, g2, c2, B2, by omega, a2⟩⟩
  rintro σ H1 ⟨l1, l2, f, s, rfl, h1, h2, n1a, n2a, Df, Ds, bt1, g1, c1, B1, k1, a1⟩
  -- second, perhaps longer
  refine ⟨fun σ H2 => ∃ (l2 : Addr) (s : List Int), σ = [some (.ref a), some (.ref l1), some (.ref l2), none, none, none, none, none, none, none, none, none, none, none] ∧ H2 l1 = some (.lst (f.map V.int)) ∧ H2 l2 = some (.lst (s.map V.int)) ∧ l2 ≠ a ∧ Dr s ∧ But a H H2 ∧ ∃ g2 c2, Bag g2 c2 sd ∧ c2 ≤ c + 17 ∧ H2 a = some (.lst (bagL g2 c2 sd)), ?_, ?_⟩
  · refine ⟨_, rfl, a, g1, c1, sd, 2, rfl, a1, B1, by omega, by decide, by decide, fun r H2 r0 r1 ⟨g2, c2, B2, k2, a2, m2⟩ => ⟨rfl, _, rfl, ?_⟩⟩
    have h12 := m2 _ _ h1 n1a
    have h22 := m2 _ _ h2 n2a
    have bt2 : But a H H2 := fun p o z n => m2 p o (bt1 p o z n) n
    refine ite2 (fun _ => ?_) (fun _ => ?_)
    · refine ⟨_, rfl, l2, _, rfl, .inl (SqL.of h22), _, _, rfl, rfl, _, rfl, ?_⟩
      refine ite2 (fun hlt => ?_) (fun _ => ?_)
      · have hlt' : ((s.map V.int).length : Int) < 6 := of_decide_eq_true hlt
        rw [List.length_map] at hlt'
        refine ⟨_, rfl, _, rfl, _, rfl, l1, _, rfl, SqL.of h12, fun q nq => ?_⟩
        have ec : cutV (f.map V.int) none (some 1) = (f.take 1).map V.int := by
          rw [List.map_take]
          exact cut_to (f.map V.int) 1
        have sq : Same H2 (upd H2 q (.lst (cutV (f.map V.int) none (some 1)))) := same_new nq
        refine ⟨l2, q, s.map V.int, (f.take 1).map V.int, rfl, rfl, sq _ _ h22, by rw [upd_same, ec], ?_, fun x nx => ?_⟩
        · rw [List.length_map, List.length_map, List.length_take, sizeLine_eq]
          omega
        have s2 := sq.trans (same_new (o := .lst (s.map V.int ++ (f.take 1).map V.int)) nx)
        refine ⟨x, s ++ f.take 1, rfl, s2 _ _ h12, by rw [upd_same, List.map_append], ?_, ⟨?_, fun z hz => ?_⟩, bt2.same s2, g2, c2, B2, by omega, s2 _ _ a2⟩
        · exact fun e => by
            have := sq _ _ a2
            rw [e, this] at nx
            cases nx
        · rw [List.length_append, List.length_take]
          omega
        · rcases List.mem_append.mp hz with h | h
          · exact Ds.n z h
          · exact Df.n z (List.mem_of_mem_take h)
      · exact ⟨_, rfl, l2, s, rfl, h12, h22, n2a, Ds, bt2, g2, c2, B2, by omega, a2⟩
    · exact ⟨_, rfl, l2, s, rfl, h12, h22, n2a, Ds, bt2, g2, c2, B2, by omega, a2⟩
  clear h1 h2 n2a Ds bt1 B1 k1 a1
  rintro σ H2 ⟨l2, s, rfl, h1, h2, n2a, Ds, bt2, g2, c2, B2, k2, a2⟩
  -- second, perhaps the first one
  refine ⟨fun σ H3 => ∃ (l2 : Addr) (s : List Int), σ = [some (.ref a), some (.ref l1), some (.ref l2), none, none, none, none, none, none, none, none, none, none, none] ∧ H3 l1 = some (.lst (f.map V.int)) ∧ H3 l2 = some (.lst (s.map V.int)) ∧ Dr s ∧ But a H H3 ∧ H3 a ≠ none, ?_, ?_⟩
  · refine ⟨_, rfl, a, g2, c2, sd, 5, rfl, a2, B2, by omega, by decide, by decide, fun r H3 r0 r1 ⟨g3, c3, B3, k3, a3, m3⟩ => ⟨rfl, _, rfl, ?_⟩⟩
    have h13 := m3 _ _ h1 n1a
    have h23 := m3 _ _ h2 n2a
    have bt3 : But a H H3 := fun p o z n => m3 p o (bt2 p o z n) n
    refine ite2 (fun _ => ?_) (fun _ => ?_)
    · exact ⟨_, rfl, l1, _, rfl, .inl (SqL.of h13), fun q nq => ⟨q, f, rfl, same_new nq _ _ h13, upd_same, Df, bt3.same (same_new nq), fun z => by rw [same_new nq _ _ a3] at z; cases z⟩⟩
    · exact ⟨_, rfl, l2, s, rfl, h13, h23, Ds, bt3, fun z => by rw [a3] at z; cases z⟩
  clear h1 h2 n2a Ds bt2 B2 k2 a2
  rintro σ H3 ⟨l2, s, rfl, h1, h2, Ds, bt3, na3⟩
  have nn : ∀ x, H3 x = none → H x = none := fun x hx => by
    cases q : H x with
    | none => rfl
    | some o =>
      have nx : x ≠ a := fun z => na3 (by rw [← z]; exact hx)
      have := bt3 x o q nx
      rw [hx] at this
      cases this
  have lf := Df.l
  have ls := Ds.l
  -- one, other
  refine ⟨fun σ H4 => ∃ o1 o2 : Addr, σ = [some (.ref a), some (.ref l1), some (.ref l2), some (.ref o1), some (.ref o2), none, none, none, none, none, none, none, none, none] ∧ Same H3 H4 ∧ IsMd C H4 o1 (asc f) ∧ IsMd C H4 o2 (asc s) ∧ o2 ≠ o1 ∧ H3 o1 = none ∧ H3 o2 = none, ?_, ?_⟩
  · refine ⟨_, rfl, l1, f, rfl, h1, lf, fun o1 H4 s4 n1 m1 => ?_⟩
    exact ⟨_, rfl, l2, s, rfl, s4 _ _ h2, ls, fun o2 H5 s5 n2 m2 => ⟨_, _, rfl, o1, o2, rfl, s4.trans s5, m1.same s5, m2, m1.ne n2, n1, s4.free n2⟩⟩
  rintro σ H4 ⟨o1, o2, rfl, s4, m1, m2, n12, nH1, nH2⟩
  -- due, more
  refine ⟨fun σ H5 => ∃ d m : Addr, σ = [some (.ref a), some (.ref l1), some (.ref l2), some (.ref o1), some (.ref o2), some (.ref d), some (.ref m), none, none, none, none, none, none, none] ∧ Same H4 H5 ∧ Gx C l1 l2 o1 o2 d m f s (asc f) H5, ?_, ?_⟩
  · refine ⟨_, rfl, ?_⟩
    unfold tNil
    refine srt_go (s4 _ _ h1) (by omega) fun d H5 s5 nd hd => ⟨_, rfl, ?_⟩
    refine srt_go (s5 _ _ (s4 _ _ h2)) (by omega) fun m H6 s6 nm hm => ⟨(by show 2 ≤ sizeLine; decide), fun tp ntp => ?_⟩
    have s7 := s5.trans (s6.trans (same_new (o := .tup [V.ref d, .ref m]) ntp))
    exact ⟨tp, _, rfl, SqT.of upd_same, rfl, _, _, rfl, _, _, rfl, rfl, d, m, rfl, s7, s7 _ _ (s4 _ _ h1), s7 _ _ (s4 _ _ h2), m1.same s7, m2.same s7, same_new ntp _ _ (s6 _ _ hd), same_new ntp _ _ hm⟩
  rintro σ H5 ⟨d, m, rfl, s5, G5⟩
  have bt5 := (bt3.same s4).same s5
  clear m1 m2 h1 h2
  have Rf := rw_asc (Nat.le_trans lf (by decide)) Df.n
  have Rs := rw_asc (Nat.le_trans ls (by decide)) Ds.n
  have laf := len_asc f
  have las := len_asc s
  -- as they should be
  refine ⟨fun σ H6 => σ = [some (.ref a), some (.ref l1), some (.ref l2), some (.ref o1), some (.ref o2), some (.ref d), some (.ref m), none, none, none, none, none, none, none] ∧ Same H5 H6, ?_, ?_⟩
  · refine ⟨_, rfl, _, rfl, o1, d, asc f, rfl, G5.one, G5.due, Rf, fun H6 s6 => ⟨_, rfl, if_no rfl ?_⟩⟩
    refine ⟨_, rfl, _, rfl, o2, m, asc s, rfl, G5.two.same s6, s6 _ _ G5.more, Rs, fun H7 s7 => ⟨_, rfl, if_no rfl ?_⟩⟩
    have G7 := (G5.same s6).same s7
    obtain ⟨dx, t, q1, q2⟩ := id G7.one
    obtain ⟨dy, u, r1, r2⟩ := id G7.two
    refine ⟨_, rfl, _, rfl, o1, dx, _, o2, dy, _, rfl, q1, rfl, r1, o1, asc f, _, rfl, G7.one, .inl ⟨o2, asc s, rfl, G7.two, ⟨_, rfl⟩, ?_⟩⟩
    refine ⟨_, rfl, _, rfl, .list ((asc f).map PyData.int), .list ((asc s).map PyData.int), .lst (SqL.of G7.due) (dp_ints _), .lst (SqL.of G7.more) (dp_ints _), sh_lst _, sh_lst _, rfl, _, rfl, if_no (ne_no (by rw [eqv_lst])) ⟨rfl, s6.trans s7⟩⟩
  rintro σ H6 ⟨rfl, s6⟩
  have G6 := G5.same s6
  have bt6 := bt5.same s6
  clear G5 bt5
  -- either, both
  obtain ⟨U, eU⟩ : ∃ U, U = asc (f ++ s) := ⟨_, rfl⟩
  obtain ⟨B, eB⟩ : ∃ B, B = (asc f).filter fun z => (asc s).contains z := ⟨_, rfl⟩
  have nfs : ∀ z ∈ f ++ s, Nt z := fun z hz => (List.mem_append.mp hz).elim (Df.n z) (Ds.n z)
  have lfs : (f ++ s).length ≤ 12 := by rw [List.length_append]; omega
  have RU : Rw U := by rw [eU]; exact rw_asc (by omega) nfs
  have lU : U.length ≤ 12 := by rw [eU]; exact Nat.le_trans (len_asc _) lfs
  have pB : B.Pairwise (· < ·) := by rw [eB]; exact (pw_asc f).filter _
  have lB : B.length ≤ 6 := by
    rw [eB]
    exact Nat.le_trans (List.length_filter_le _ _) (by omega)
  have RB : Rw B := ⟨by omega, fun z hz => Rf.n z (by rw [eB] at hz; exact (List.mem_filter.mp hz).1)⟩
  have J1 : asc (asc f ++ asc s) = U := by
    rw [eU]
    exact asc_eq fun x => by rw [List.mem_append, List.mem_append, mem_asc, mem_asc]
  have J2 : asc (asc s ++ asc f) = U := by
    rw [eU]
    exact asc_eq fun x => by rw [List.mem_append, List.mem_append, mem_asc, mem_asc]; exact or_comm
  have K0 : asc (asc f ++ asc []) = asc f := by
    rw [show asc (asc f ++ asc []) = asc (asc f) by congr 1; exact List.append_nil _]
    exact asc_id (pw_asc f)
  have pU : U.Pairwise (· < ·) := by rw [eU]; exact pw_asc _
  have U0 : asc (U ++ asc []) = U := by
    rw [show asc (U ++ asc []) = asc U by congr 1; exact List.append_nil _]
    exact asc_id pU
  have UU : asc (U ++ U) = U := (asc_eq fun x => by rw [List.mem_append, or_self]).trans (asc_id pU)
  refine ⟨fun σ H7 => ∃ e b : Addr, σ = [some (.ref a), some (.ref l1), some (.ref l2), some (.ref o1), some (.ref o2), some (.ref d), some (.ref m), some (.ref e), some (.ref b), none, none, none, none, none] ∧ Same H6 H7 ∧ H7 e = some (.lst (U.map V.int)) ∧ H7 b = some (.lst (B.map V.int)), ?_, ?_⟩
  · refine ⟨_, rfl, _, rfl, l1, l2, _, _, rfl, rfl, G6.f_, G6.s_, by rw [List.length_map, List.length_map, sizeLine_eq]; omega, fun x nx => ?_⟩
    have sx : Same H6 (upd H6 x (.lst (f.map V.int ++ s.map V.int))) := same_new nx
    unfold tNil
    refine srt_go (zs := f ++ s) (by rw [upd_same, List.map_append]) (by omega) fun e H7 s7 ne he => ?_
    rw [← eU] at he
    have s67 := sx.trans s7
    refine ⟨_, rfl, d, rfl, ⟨_, SqL.of (s67 _ _ G6.due)⟩, fun D nD => ?_⟩
    refine loop_it (walk_list (K := K) (a := d) (xs := (asc f).map V.int)) (fun i H8 => H8 D = some (.lst ((((asc f).take i).filter fun z => (asc s).contains z).map V.int)) ∧ Same H7 H8) ⟨upd_same, same_new nD⟩ (fun i H8 _ z => SqL.of (z.2 _ _ (s67 _ _ G6.due))) ?_ ?_
    · rintro i v H8 H9 hi ⟨hD, s8⟩ ⟨rfl, hv⟩
      rw [List.getElem?_map] at hv
      obtain ⟨z, hz, rfl⟩ := Option.map_eq_some_iff.mp hv
      have li : i < (asc f).length := (List.getElem?_eq_some_iff.mp hz).1
      have et : (asc f).take (i + 1) = (asc f).take i ++ [z] := by rw [List.take_add_one, hz]; rfl
      refine ⟨rfl, _, rfl, _, rfl, m, _, rfl, .inl (SqL.of (s8 _ _ (s67 _ _ G6.more))), rfl, flat_ints _, _, rfl, ?_⟩
      have key : ∀ q : Bool, q = (asc s).contains z → (if q = true then ∃ v, [some (V.ref a), some (.ref l1), some (.ref l2), some (.ref o1), some (.ref o2), some (.ref d), some (.ref m), none, none, none, none, none, none, some (.int z)][13]? = some (some v) ∧ ∃ acc, H9 D = some (.lst acc) ∧ acc.length < sizeLine ∧ (upd H9 D (.lst (acc ++ [v]))) D = some (.lst ((((asc f).take (i + 1)).filter fun z => (asc s).contains z).map V.int)) ∧ Same H7 (upd H9 D (.lst (acc ++ [v]))) else H9 D = some (.lst ((((asc f).take (i + 1)).filter fun z => (asc s).contains z).map V.int)) ∧ Same H7 H9) := by
        intro q hq
        rw [et, List.filter_append]
        cases hc : (asc s).contains z with
        | true =>
          rw [hc] at hq
          rw [hq]
          refine iteT ⟨_, rfl, _, hD, ?_, ?_, fun p o y => ?_⟩
          · rw [List.length_map, sizeLine_eq]
            have h3 := List.length_filter_le (fun z => (asc s).contains z) ((asc f).take i)
            rw [List.length_take] at h3
            omega
          · rw [upd_same, List.filter_cons_of_pos hc, List.filter_nil, List.map_append]
            rfl
          · rw [upd_ne (ne_of_none y nD)]
            exact s8 _ _ y
        | false =>
          rw [hc] at hq
          rw [hq]
          refine iteF ⟨?_, s8⟩
          rw [List.filter_cons_of_neg (by rw [hc]; decide), List.filter_nil, List.append_nil]
          exact hD
      exact key _ (by rw [inV_ints]; rfl)
    · rintro H8 ⟨hD, s8⟩
      rw [List.length_map, List.take_length, ← eB] at hD
      exact ⟨_, _, rfl, e, D, rfl, s67.trans s8, s8 _ _ he, hD⟩
  rintro σ H7 ⟨e, b, rfl, s7, he7, hb7⟩
  have G7 := G6.same s7
  have bt7 := bt6.same s7
  clear G6 bt6
  -- joined, common
  refine ⟨fun σ H8 => ∃ j k : Addr, σ = [some (.ref a), some (.ref l1), some (.ref l2), some (.ref o1), some (.ref o2), some (.ref d), some (.ref m), some (.ref e), some (.ref b), some (.ref j), some (.ref k), none, none, none] ∧ Same H7 H8 ∧ Jx C e b j k U B U H8 ∧ H7 j = none ∧ H7 k = none ∧ k ≠ j, ?_, ?_⟩
  · obtain ⟨dx, t, q1, q2⟩ := id G7.one
    obtain ⟨dy, u, r1, r2⟩ := id G7.two
    refine ⟨_, rfl, _, rfl, o1, dx, _, o2, dy, _, rfl, q1, rfl, r1, o1, o2, asc f, asc s, rfl, G7.one, G7.two, by omega, fun j H8 s8 nj mj => ⟨⟨_, rfl⟩, ?_⟩⟩
    rw [J1] at mj
    refine ⟨_, rfl, _, rfl, o1, dx, _, o2, dy, _, rfl, s8 _ _ q1, rfl, s8 _ _ r1, o1, o2, asc f, asc s, rfl, G7.one.same s8, G7.two.same s8, by omega, fun k H9 s9 nk mk => ⟨⟨_, rfl⟩, _, _, rfl, j, k, rfl, s8.trans s9, ⟨s9 _ _ (s8 _ _ he7), s9 _ _ (s8 _ _ hb7), mj.same s9, ?_⟩, nj, s8.free nk, mj.ne nk⟩⟩
    rw [← eB, asc_id pB] at mk
    exact mk
  rintro σ H8 ⟨j, k, rfl, s8, X8, nj, nk, nkj⟩
  have G8 := G7.same s8
  have bt8 := bt7.same s8
  have nj1 : j ≠ o1 := G7.one.ne nj
  have nk1 : k ≠ o1 := G7.one.ne nk
  have nj2 : j ≠ o2 := G7.two.ne nj
  have nHj : H3 j = none := s4.free (s5.free (s6.free (s7.free nj)))
  clear G7 bt7 he7 hb7
  -- as they should be
  refine ⟨fun σ H9 => σ = [some (.ref a), some (.ref l1), some (.ref l2), some (.ref o1), some (.ref o2), some (.ref d), some (.ref m), some (.ref e), some (.ref b), some (.ref j), some (.ref k), none, none, none] ∧ Same H8 H9, ?_, ?_⟩
  · refine ⟨_, rfl, _, rfl, j, e, U, rfl, X8.jn, X8.ei, RU, fun H9 z9 => ⟨_, rfl, if_no rfl ?_⟩⟩
    refine ⟨_, rfl, _, rfl, k, b, B, rfl, X8.cm.same z9, z9 _ _ X8.bo, RB, fun H10 z10 => ⟨_, rfl, if_no rfl ?_⟩⟩
    have y10 := z9.trans z10
    refine ⟨_, rfl, _, rfl, o1, d, asc f, rfl, G8.one.same y10, y10 _ _ G8.due, Rf, fun H11 z11 => ⟨_, rfl, if_no rfl ?_⟩⟩
    have y11 := y10.trans z11
    exact ⟨_, rfl, _, rfl, o2, m, asc s, rfl, G8.two.same y11, y11 _ _ G8.more, Rs, fun H12 z12 => ⟨_, rfl, if_no rfl ⟨rfl, y11.trans z12⟩⟩⟩
  rintro σ H9 ⟨rfl, s9⟩
  have G9 := G8.same s9
  have X9 := X8.same s9
  have bt9 := bt8.same s9
  clear G8 X8 bt8
  -- beside others
  refine ⟨fun σ H10 => σ = [some (.ref a), some (.ref l1), some (.ref l2), some (.ref o1), some (.ref o2), some (.ref d), some (.ref m), some (.ref e), some (.ref b), some (.ref j), some (.ref k), none, none, none] ∧ Same H9 H10, ?_, ?_⟩
  · obtain ⟨dx, t, q1, q2⟩ := id G9.one
    obtain ⟨dy, u, r1, r2⟩ := id G9.two
    refine ⟨_, rfl, _, rfl, o1, dx, _, .list ((asc f).map PyData.int), rfl, q1, .lst (SqL.of G9.due) (dp_ints _), o1, asc f, _, rfl, G9.one, .inr ⟨"list", ty_list (SqL.of G9.due), L.hT, ⟨_, rfl⟩, _, rfl, if_no rfl ?_⟩⟩
    refine ⟨_, rfl, _, rfl, o1, C, dx, _, _, rfl, q1, L.T.cl, L.T.nR, rfl, o1, dx, _, .tuple ((asc f).map PyData.int), rfl, q1, .tup (SqT.of q2) (dp_ints _), o1, asc f, _, rfl, G9.one, .inr ⟨"tuple", ty_tup (SqT.of q2), L.hU, ⟨_, rfl⟩, _, rfl, if_no rfl ?_⟩⟩
    refine ⟨_, rfl, _, rfl, l1, _, rfl, SqL.of G9.f_, fun x nx => ?_⟩
    have zx : Same H9 (upd H9 x (.lst (f.map V.int).reverse)) := same_new nx
    refine ⟨x, f.reverse, rfl, by rw [upd_same, List.map_reverse], by rw [List.length_reverse]; exact lf, fun y H10 z10 ny my => ?_⟩
    rw [asc_eq (b := f) fun x => List.mem_reverse] at my
    have y10 := zx.trans z10
    obtain ⟨dz, v, u1, u2⟩ := id my
    refine ⟨o1, dx, _, y, dz, _, rfl, y10 _ _ q1, rfl, u1, o1, asc f, _, rfl, G9.one.same y10, .inl ⟨y, asc f, rfl, my, _, rfl, _, rfl, if_no (by rw [decide_eq_true rfl]; rfl) ?_⟩⟩
    refine ⟨_, rfl, _, rfl, o1, dx, _, o2, dy, _, rfl, y10 _ _ q1, rfl, y10 _ _ r1, o1, o2, asc f, asc s, rfl, G9.one.same y10, G9.two.same y10, by omega, fun w1 H11 z11 nw1 mw1 => ⟨⟨_, rfl⟩, ?_⟩⟩
    have y11 := y10.trans z11
    refine ⟨_, rfl, _, rfl, o2, dy, _, o1, dx, _, rfl, y11 _ _ r1, rfl, y11 _ _ q1, o2, o1, asc s, asc f, rfl, G9.two.same y11, G9.one.same y11, by omega, fun w2 H12 z12 nw2 mw2 => ⟨⟨_, rfl⟩, ?_⟩⟩
    rw [J1] at mw1
    rw [J2] at mw2
    obtain ⟨da, va, a1, a2⟩ := id (mw1.same z12)
    obtain ⟨db, vb, b1, b2⟩ := id mw2
    exact ⟨w1, da, _, w2, db, _, rfl, a1, rfl, b1, w1, U, _, rfl, mw1.same z12, .inl ⟨w2, U, rfl, mw2, _, rfl, _, rfl, if_no (by rw [decide_eq_true rfl]; rfl) ⟨rfl, y11.trans z12⟩⟩⟩
  rintro σ H10 ⟨rfl, s10⟩
  have G10 := G9.same s10
  have X10 := X9.same s10
  have bt10 := bt9.same s10
  clear G9 X9 bt9
  -- alias, kept
  refine ⟨fun σ H11 => ∃ kp : Addr, σ = [some (.ref a), some (.ref l1), some (.ref l2), some (.ref o1), some (.ref o2), some (.ref d), some (.ref m), some (.ref e), some (.ref b), some (.ref j), some (.ref k), some (.ref o1), some (.ref kp), none] ∧ Same H10 H11 ∧ IsMd C H11 kp (asc f) ∧ kp ≠ o1 ∧ kp ≠ j, ?_, ?_⟩
  · refine ⟨_, rfl, _, rfl, ?_⟩
    refine mk_t0 fun y H11 z11 ny my => ?_
    obtain ⟨dx, t, q1, q2⟩ := id (G10.one.same z11)
    obtain ⟨dy, u, r1, r2⟩ := id my
    refine ⟨o1, dx, _, y, dy, _, rfl, q1, rfl, r1, o1, y, asc f, asc [], rfl, G10.one.same z11, my, (by show (asc f).length + 0 ≤ 60; omega), fun kp H12 z12 nkp mkp => ⟨⟨_, rfl⟩, _, _, rfl, kp, rfl, z11.trans z12, ?_, (G10.one.same z11).ne nkp, (X10.jn.same z11).ne nkp⟩⟩
    rw [K0] at mkp
    exact mkp
  rintro σ H11 ⟨kp, rfl, s11, mkp, nkp1, nkpj⟩
  have G11 := G10.same s11
  have X11 := X10.same s11
  have bt11 := bt10.same s11
  clear G10 X10 bt10
  -- alias |= other
  refine ⟨fun σ H12 => σ = [some (.ref a), some (.ref l1), some (.ref l2), some (.ref o1), some (.ref o2), some (.ref d), some (.ref m), some (.ref e), some (.ref b), some (.ref j), some (.ref k), some (.ref o1), some (.ref kp), none] ∧ Gx C l1 l2 o1 o2 d m f s U H12 ∧ Jx C e b j k U B U H12 ∧ IsMd C H12 kp (asc f) ∧ But a H H12, ?_, ?_⟩
  · obtain ⟨dx, t, q1, q2⟩ := id G11.one
    obtain ⟨dy, u, r1, r2⟩ := id G11.two
    refine ⟨_, rfl, _, rfl, o1, dx, _, o2, dy, _, rfl, q1, rfl, r1, o1, o2, asc f, asc s, rfl, G11.one, G11.two, by omega, fun H12 b12 m12 => ⟨⟨_, rfl⟩, rfl, ?_⟩⟩
    rw [J1] at m12
    exact ⟨G11.but1 n12 b12 m12, X11.but1 G11.one nj1 nk1 b12, mkp.but b12 nkp1 (md_tup G11.one), bt11.new b12 (nn _ nH1)⟩
  rintro σ H12 ⟨rfl, G12, X12, mk12, bt12⟩
  clear G11 X11 bt11 mkp
  -- as they should be
  refine ⟨fun σ H13 => σ = [some (.ref a), some (.ref l1), some (.ref l2), some (.ref o1), some (.ref o2), some (.ref d), some (.ref m), some (.ref e), some (.ref b), some (.ref j), some (.ref k), some (.ref o1), some (.ref kp), none] ∧ Same H12 H13, ?_, ?_⟩
  · refine ⟨_, rfl, _, rfl, o1, e, U, rfl, G12.one, X12.ei, RU, fun H13 z13 => ⟨_, rfl, if_no rfl ?_⟩⟩
    refine ⟨_, rfl, _, rfl, o1, e, U, rfl, G12.one.same z13, z13 _ _ X12.ei, RU, fun H14 z14 => ⟨_, rfl, if_no rfl ?_⟩⟩
    have y14 := z13.trans z14
    refine ⟨_, rfl, _, rfl, o2, m, asc s, rfl, G12.two.same y14, y14 _ _ G12.more, Rs, fun H15 z15 => ⟨_, rfl, if_no rfl ?_⟩⟩
    have y15 := y14.trans z15
    exact ⟨_, rfl, _, rfl, kp, d, asc f, rfl, mk12.same y15, y15 _ _ G12.due, Rf, fun H16 z16 => ⟨_, rfl, if_no rfl ⟨rfl, y15.trans z16⟩⟩⟩
  rintro σ H13 ⟨rfl, s13⟩
  have G13 := G12.same s13
  have X13 := X12.same s13
  have bt13 := bt12.same s13
  clear G12 X12 bt12 mk12
  -- alias and one
  refine ⟨fun σ H14 => σ = [some (.ref a), some (.ref l1), some (.ref l2), some (.ref o1), some (.ref o2), some (.ref d), some (.ref m), some (.ref e), some (.ref b), some (.ref j), some (.ref k), some (.ref o1), some (.ref kp), none] ∧ Same H13 H14, ?_, ?_⟩
  · obtain ⟨dx, t, q1, q2⟩ := id G13.one
    obtain ⟨dy, u, r1, r2⟩ := id X13.jn
    refine ⟨_, rfl, _, rfl, o1, dx, _, o1, dx, _, rfl, q1, rfl, q1, o1, U, _, rfl, G13.one, .inl ⟨o1, U, rfl, G13.one, ⟨_, rfl⟩, _, rfl, if_no (by rw [decide_eq_true rfl]; rfl) ?_⟩⟩
    refine ⟨_, rfl, _, rfl, o1, dx, _, j, dy, _, rfl, q1, rfl, r1, o1, U, _, rfl, G13.one, .inl ⟨j, U, rfl, X13.jn, _, rfl, _, rfl, if_no (by rw [decide_eq_true rfl]; rfl) ?_⟩⟩
    refine ⟨_, rfl, _, rfl, j, e, U, rfl, X13.jn, X13.ei, RU, fun H14 z14 => ⟨_, rfl, if_no rfl ?_⟩⟩
    exact ⟨_, rfl, _, rfl, k, b, B, rfl, X13.cm.same z14, z14 _ _ X13.bo, RB, fun H15 z15 => ⟨_, rfl, if_no rfl ⟨rfl, z14.trans z15⟩⟩⟩
  rintro σ H14 ⟨rfl, s14⟩
  have G14 := G13.same s14
  have X14 := X13.same s14
  have bt14 := bt13.same s14
  clear G13 X13 bt13
  -- one |= one | Mend()
  refine ⟨fun σ H15 => σ = [some (.ref a), some (.ref l1), some (.ref l2), some (.ref o1), some (.ref o2), some (.ref d), some (.ref m), some (.ref e), some (.ref b), some (.ref j), some (.ref k), some (.ref o1), some (.ref kp), none] ∧ Gx C l1 l2 o1 o2 d m f s U H15 ∧ Jx C e b j k U B U H15 ∧ But a H H15, ?_, ?_⟩
  · refine ⟨_, rfl, _, rfl, ?_⟩
    refine mk_t0 fun y H15 z15 ny my => ?_
    obtain ⟨dx, t, q1, q2⟩ := id (G14.one.same z15)
    obtain ⟨dy, u, r1, r2⟩ := id my
    refine ⟨o1, dx, _, y, dy, _, rfl, q1, rfl, r1, o1, y, U, asc [], rfl, G14.one.same z15, my, (by show U.length + 0 ≤ 60; omega), fun x H16 z16 nx mx => ⟨⟨_, rfl⟩, ?_⟩⟩
    rw [U0] at mx
    have y16 := z15.trans z16
    have G16 := G14.same y16
    obtain ⟨dx', t', q1', q2'⟩ := id G16.one
    obtain ⟨dz, v, u1, u2⟩ := id mx
    refine ⟨o1, dx', _, x, dz, _, rfl, q1', rfl, u1, o1, x, U, U, rfl, G16.one, mx, by omega, fun H17 b17 m17 => ⟨⟨_, rfl⟩, rfl, ?_⟩⟩
    rw [UU] at m17
    exact ⟨G16.but1 n12 b17 m17, (X14.same y16).but1 G16.one nj1 nk1 b17, (bt14.same y16).new b17 (nn _ nH1)⟩
  rintro σ H15 ⟨rfl, G15, X15, bt15⟩
  clear G14 X14 bt14
  -- joined |= Mend(7)
  have n7 : ∀ z ∈ U ++ [7], Nt z := fun z hz => by
    rcases List.mem_append.mp hz with h | h
    · exact RU.n z h
    · rw [List.mem_singleton.mp h]
      exact ⟨by decide, by decide⟩
  have l7 : (U ++ [7]).length ≤ 13 := by
    rw [List.length_append]
    show U.length + 1 ≤ 13
    omega
  refine ⟨fun σ H16 => σ = [some (.ref a), some (.ref l1), some (.ref l2), some (.ref o1), some (.ref o2), some (.ref d), some (.ref m), some (.ref e), some (.ref b), some (.ref j), some (.ref k), some (.ref o1), some (.ref kp), none] ∧ Gx C l1 l2 o1 o2 d m f s U H16 ∧ H16 e = some (.lst (U.map V.int)) ∧ IsMd C H16 j (asc (U ++ [7])) ∧ But a H H16, ?_, ?_⟩
  · refine ⟨_, rfl, ?_⟩
    refine mk_t1 fun y H16 z16 ny my => ?_
    have X16 := X15.same z16
    have G16 := G15.same z16
    obtain ⟨dx, t, q1, q2⟩ := id X16.jn
    obtain ⟨dy, u, r1, r2⟩ := id my
    refine ⟨j, dx, _, y, dy, _, rfl, q1, rfl, r1, j, y, U, asc [7], rfl, X16.jn, my, (by show U.length + 1 ≤ 60; omega), fun H17 b17 m17 => ⟨⟨_, rfl⟩, rfl, G16.butJ X16.jn (Ne.symm nj1) (Ne.symm nj2) b17, b17 _ _ X16.ei (lst_ne X16.ei X16.jn), m17, (bt15.same z16).new b17 (nn _ nHj)⟩⟩
  rintro σ H16 ⟨rfl, G16, ei16, j16, bt16⟩
  -- the end
  refine ⟨_, rfl, _, rfl, o1, e, U, rfl, G16.one, ei16, RU, fun H17 z17 => ⟨_, rfl, iteT ?_⟩⟩
  refine ⟨_, rfl, _, rfl, (by show 1 ≤ sizeLine; decide), fun x nx => ⟨e, x, _, _, rfl, rfl, same_new nx _ _ (z17 _ _ ei16), upd_same, ?_, fun y ny => ?_⟩⟩
  · rw [List.length_map, sizeLine_eq]
    show U.length + 1 ≤ _
    omega
  have z18 := z17.trans ((same_new (o := .lst [V.int 7]) nx).trans (same_new (o := .lst (U.map V.int ++ [V.int 7])) ny))
  unfold tNil
  refine srt_go (zs := U ++ [7]) (by rw [upd_same, List.map_append]; rfl) (by omega) fun q H19 z19 nq hq => ?_
  have z20 := z18.trans z19
  refine ⟨j, q, asc (U ++ [7]), rfl, j16.same z20, hq, rw_asc (by omega) n7, fun H20 z21 => ⟨_, rfl, iteT ?_⟩⟩
  have z22 := z20.trans z21
  exact ⟨_, rfl, _, rfl, o1, e, U, rfl, G16.one.same z22, z22 _ _ ei16, RU, fun H21 z23 => kq _ (bt16.same (z22.trans z23))⟩
end
end Lq


set_option Elab.async false
set_option linter.all false
set_option maxRecDepth 100000
set_option maxHeartbeats 4000000
/-! Own exceptions whose __init__ stores one field, over any built-in base -/
namespace PySem
namespace LqX
/-- the list of a class's bases: it makes by B's __new__, it is an error, no AttributeError, no NameError, an object, and lets names be stored -/
structure Tl (B : String) (bm : List Value) : Prop where
  b : bm.contains (.type B) = true
  a : bm.contains (.type "AttributeError") = false
  n : bm.contains (.type "NameError") = false
  o : bm.contains (.type "object") = true
  ne : bm.isEmpty = false
  pass : ∀ self : Value, refuseLoop self "__setattr__" bm = pure ()
theorem Tl.cons {B : String} {bm : List Value} {c : Addr} (h : Tl B bm) : Tl B (.ref c :: bm) where
  b := by rw [List.contains_cons, h.b, Bool.or_true]
  a := by rw [List.contains_cons, h.a]; rfl
  n := by rw [List.contains_cons, h.n]; rfl
  o := by rw [List.contains_cons, h.o, Bool.or_true]
  ne := rfl
  pass := fun self => by rw [refuseLoop_ref]; exact h.pass self
theorem tl_value : Tl "ValueError" [.type "ValueError", .type "Exception", .type "BaseException", .type "object"] := ⟨by decide +kernel, by decide +kernel, by decide +kernel, by decide +kernel, rfl, F.store_ValueError.passes⟩
theorem tl_lookup : Tl "LookupError" [.type "LookupError", .type "Exception", .type "BaseException", .type "object"] := ⟨by decide +kernel, by decide +kernel, by decide +kernel, by decide +kernel, rfl, F.store_LookupError.passes⟩
theorem tl_run : Tl "RuntimeError" [.type "RuntimeError", .type "Exception", .type "BaseException", .type "object"] := ⟨by decide +kernel, by decide +kernel, by decide +kernel, by decide +kernel, rfl, F.store_RuntimeError.passes⟩
theorem tl_key : Tl "LookupError" [.type "KeyError", .type "LookupError", .type "Exception", .type "BaseException", .type "object"] := ⟨by decide +kernel, by decide +kernel, by decide +kernel, by decide +kernel, rfl, fun self => by kernel_rfl⟩
section
variable {prog : Program} {w : World} {A : Around} {R : Result → Shared → Prop} {E : Value → Shared → Prop} {h : Heap} {g : Array GenState} {d : Drawn} {t : Nat} {os : OsState}
variable {nm q : Str} {C N : Addr} {bs bm bB : List Value} {hdct : Bool} {sn : List Str} {sub : List Value} {ab : Bool} {col : Option Bool} {dd : Option Addr} {k0 k1 k2 k3 k5 : Option Value} {B newId initId : String}
/-- B.__new__(C, ..): the arguments' tuple, the new exception -/
theorem new_run (F : ExcBaseFacts B newId initId bB) (T : Tl B bm) {rest : List Value} (hC : h.get? C = some (excClassObj nm q C N bs bm hdct sn sub ab col dd k0 k1 k2 k3 k5 newId)) (hz : rest.length ≤ sizeLine)
    (k : R (.ok (.ret (.ref (h.objs.size + 1)))) ⟨(h.push (W.kdv_tup rest)).push (PySem.HandSPX.excO C h.objs.size), g, d, t, os⟩) : codeAny (model prog w) A (.builtin newId ⟨.ref C :: rest, []⟩) R ⟨h, g, d, t, os⟩ := by
  have e := F.ends
  have T1 : Tl B (.ref C :: bm) := T.cons
  have b1 := T1.b
  have b2 := T1.a
  have b3 := T1.n
  refine codeAny_builtinAt F.entry ?_
  unfold Builtin.«BaseException.__new__»
  refine wpAt_bind ?_
  show wpAt _ _ _ (stack >>= _) _ _ _
  refine wpAt_bind (wpAt_stack fun p0 lower => wpAt_of_wpAny ?_)
  wp_walk
  refine wpAt_of_wpAny ?_
  rw [F.owner]
  repeat (first | with_reducible refine wpAny_madeHere_exc F.canon hC ?_ | with_reducible refine wpAny_loadPart_at hC ?_ | (with_reducible refine wpAny_isSubtype_exc hC ?_; first | rw [b1] | rw [b2] | rw [b3]) | wp_step)
  show R _ _
  rw [Heap.size_push]
  exact k
theorem check_run {M : Model} (F : ExcBaseFacts B newId initId bB) (T : Tl B bm) {rest : List Value} {Q : Unit → Shared → Prop} (hC : h.get? C = some (excClassObj nm q C N bs bm hdct sn sub ab col dd k0 k1 k2 k3 k5 newId)) (k : Q () ⟨h, g, d, t, os⟩) :
    wpAny M A (checkBuiltinCall newId ⟨.ref C :: rest, []⟩) Q E ⟨h, g, d, t, os⟩ := by
  have T1 : Tl B (.ref C :: bm) := T.cons
  have b1 := T1.b
  have z := F.noStar
  simp only [checkBuiltinCall, F.newKind, F.newSplit, F.newRow]
  repeat (first | refine wpAny_loadPart_at hC ?_ | (refine wpAny_isSubtype_exc hC ?_; rw [b1]) | refine wpAny_staticBase_exc hC ?_ | refine wpAny_madeBy_exc hC ?_ | simp only [bne_self_eq_false, Bool.false_eq_true, if_false] | wp_step)
  exact k
theorem typeCall_run (F : ExcBaseFacts B newId initId bB) (T : Tl B bm) {rest : List Value} {fI : Addr} {Q : Fin → Shared → Prop} (hC : h.get? C = some (excClassObj nm q C N bs bm hdct sn sub ab col dd k0 k1 k2 k3 k5 newId))
    (hi : W.Looks (model prog w) h (typeLookup (.ref C) "__init__") (some (.ref fI))) (hb : ∀ self, W.Looks (model prog w) h (bindSpecial (.ref fI) self) (.ref fI, [self])) (hz : rest.length ≤ sizeLine)
    (k : codeAny (model prog w) A (.call (.ref fI) ⟨.ref (h.objs.size + 1) :: rest, []⟩)
      (fun r s' => match r with | .ok (.ret v) => v = .none ∧ Q (.done (.ret (.ref (h.objs.size + 1)))) s' | .ok _ => False | .error e => E e s') ⟨(h.push (W.kdv_tup rest)).push (PySem.HandSPX.excO C h.objs.size), g, d, t, os⟩) :
    wpAny (model prog w) A (Builtin.«type.__call__» ⟨.ref C :: rest, []⟩) Q E ⟨h, g, d, t, os⟩ := by
  repeat (first | with_reducible refine wpAny_loadPart_at hC ?_ | with_reducible refine wpAny_madeBy_exc hC ?_ | wp_step)
  refine codeAny_call_builtin_code (Code.quiet_builtin _ F.quiet) (check_run F T hC (new_run F T hC hz ?_))
  show wpAny _ _ _ _ _ _
  have kp : ∀ b o, h.get? b = some o → ((h.push (W.kdv_tup rest)).push (PySem.HandSPX.excO C h.objs.size)).get? b = some o := fun b o e => Heap.get?_push_of_some _ (Heap.get?_push_of_some _ e)
  have hC1 := kp _ _ hC
  have he : ((h.push (W.kdv_tup rest)).push (PySem.HandSPX.excO C h.objs.size)).get? (h.objs.size + 1) = some (PySem.HandSPX.excO C h.objs.size) := by heap_get
  have own : (Value.ref C :: bm).contains (.ref C) = true := by simp
  have i1 := hi.keeps kp
  have b1 := (hb (.ref (h.objs.size + 1))).keeps kp
  unfold isInstance
  repeat (first | with_reducible refine wpAny_loadPart_at he ?_ | (with_reducible refine wpAny_isSubtype_exc hC1 ?_; rw [own]) | wp_step)
  show wpAny _ _ (typeLookup (.ref C) _) _ _ _
  refine i1.at (wpAny_holding (wpAny_bind (b1.at (wpAny_bind (wpAny_call (codeAny_mono k fun r s' z => ?_))))))
  cases r with
  | error e => exact z
  | ok fl =>
    cases fl with
    | ret v =>
      obtain ⟨rfl, z⟩ := z
      first
        | exact wpAny_pure (wpAny_pure z)
        | (wp_walk; exact z)
    | next => exact z.elim
    | brk => exact z.elim
    | cont => exact z.elim
theorem make_run (F : ExcBaseFacts B newId initId bB) (T : Tl B bm) {rest : List Value} {fI : Addr} (hC : h.get? C = some (excClassObj nm q C N bs bm hdct sn sub ab col dd k0 k1 k2 k3 k5 newId))
    (hi : W.Looks (model prog w) h (typeLookup (.ref C) "__init__") (some (.ref fI))) (hb : ∀ self, W.Looks (model prog w) h (bindSpecial (.ref fI) self) (.ref fI, [self])) (hz : rest.length ≤ sizeLine)
    (k : codeAny (model prog w) (A.under (.builtin "type.__call__" ⟨.ref C :: rest, []⟩)) (.call (.ref fI) ⟨.ref (h.objs.size + 1) :: rest, []⟩) (W.InitBack (h.objs.size + 1) R) ⟨(h.push (W.kdv_tup rest)).push (PySem.HandSPX.excO C h.objs.size), g, d, t, os⟩) :
    codeAny (model prog w) A (.call (.ref C) ⟨rest, []⟩) R ⟨h, g, d, t, os⟩ := by
  have f1 := tc_lookup
  have f2 := tc_bind (.ref C)
  have ty : (⟨h, g, d, t, os⟩ : Shared).TypeIs (.ref C) "type" := ⟨_, hC, rfl⟩
  refine codeAny_of_tree ?_
  show wpAny _ _ (callAny (.ref C) _) _ _ _
  repeat (any_goals (first | assumption | with_reducible refine wpAny_loadPart_at hC ?_ | wp_step))
  refine ⟨rfl, codeAny_call_builtin_at (Code.quiet_builtin _ (by decide +kernel)) entry_typeCall (wpAny_check_type_call_sub hC (typeCall_run F T hC hi hb hz (codeAny_mono k fun r s' z => ?_)))⟩
  rcases r with e | (v | _ | _ | _) <;> exact z
end
end LqX
end PySem


set_option Elab.async false
set_option linter.all false
set_option maxRecDepth 100000
set_option maxHeartbeats 4000000
namespace PySem
namespace LqX
open Builtin Builtin.ObjectAttr
section
variable {prog : Program} {w : World} {A : Around} {R : Result → Shared → Prop} {hp : Heap} {g : Array GenState} {d : Drawn} {t : Nat} {os : OsState}
/-- e.name = v, the first field of the exception at x -/
theorem store_run {K : W.Frag} {B : String} {name : Str} {tk : Tok} {v : Value} {x C : Addr} {fv : Array Value} {cd : ClassData} (X : K.In hp) (hx : hp.get? x = some { cls := .ref C, data := .fields fv }) (hcd : W.clsIn K C = some cd) (T : Tl B cd.mro)
    (hh : cd.hasDict = true) (ha : W.findIn K (.ref C) name = some none)
    (k : ∀ h' tk' dx, (∀ b o, b ≠ x → hp.get? b = some o → h'.get? b = some o) → hp.objs.size ≤ dx → dx ≠ x → h'.get? x = some { cls := .ref C, dict := some dx, data := .fields fv } →
      h'.Ns1 dx (fun y => if y = name then some v else none) → R (.ok (.ret .none)) ⟨h', g, d, tk', os⟩) :
    codeAny (model prog w) A (.call (.builtin "object.__setattr__") ⟨[.ref x, .str name tk, v], []⟩) R ⟨hp, g, d, t, os⟩ := by
  have at_ : W.InstAt hp x { cls := .ref C, data := .fields fv } C none := ⟨hx, rfl, rfl, trivial⟩
  have S := F.store_object
  have nx : x ≠ hp.objs.size := Nat.ne_of_lt (Heap.lt_size hx)
  have io : W.Looks (model prog w) hp (isInstance (.ref x) (.type "object")) true := at_.type.andThen (W.looks_mroIn X (by unfold W.mroIn; rw [hcd, Option.bind_some, if_neg (by rw [T.ne]; decide), T.o]))
  have lm : W.Looks (model prog w) hp (mroOf (.ref C)) cd.mro := (W.looks_clsIn X hcd).andThen .now
  have l3 : W.Looks (model prog w) hp (storeTaker? none) none := .now
  have lc : W.Looks (model prog w) hp (classData C) cd := W.looks_clsIn X hcd
  refine codeAny_call_builtin S.slot.plain S.entry (@W.check_slot (model prog w) _ _ ⟨hp, g, d, t, os⟩ "object.__setattr__" "object" "__setattr__" (.ref x) [.str name tk, v] [] _ S.kind S.split io (S.args (.ref x) (.str name tk) v) ?_)
  rw [W.osa_eq, refuse_eq]
  refine wpAny_bind (wpAny_bind (at_.type.at (wpAny_bind (lm.at ?_))))
  rw [T.pass]
  refine wpAny_pure (wpAny_bind (at_.type.at (wpAny_bind ((W.looks_findIn X ha).at (wpAny_bind (l3.at ?_))))))
  show wpAny _ _ (storeInOwnDict (.ref x) (.ref C) (.str name tk) name v false) _ _ _
  obtain ⟨c1, c2, c3, c4, c5, c6, c7, c8, c9, c10, c11⟩ := cd
  dsimp only at hh
  subst hh
  unfold storeInOwnDict ownDictForStores
  repeat (first | with_reducible refine HandSPX.store_in_new ?_ ?_ | with_reducible refine wpAny_loadPart_at hx ?_ | with_reducible refine lc.at ?_ | wp_step)
  · exact ⟨_, #[], _, (Heap.get?_update_ne _ _ _ _ nx.symm).trans (Heap.get?_push_at rfl rfl), rfl, fun e he => absurd he (by simp), fun _ => rfl⟩
  · intro h2 tk2 ns2 sb
    have hx2 : (hp.push { cls := .type "dict", data := .dict #[] }).get? x = some { cls := .ref C, data := .fields fv } := Heap.get?_push_of_some _ hx
    refine k h2 tk2 hp.objs.size (fun b o nb ho => ?_) (Nat.le_refl _) nx.symm ((sb.2 x nx).trans (Heap.get?_update_self _ hx2 rfl)) ns2
    exact (sb.2 b (Nat.ne_of_lt (Heap.lt_size ho))).trans ((Heap.get?_update_ne _ _ _ _ nb).trans (Heap.get?_push_of_some _ ho))
end
end LqX
end PySem
namespace L2
namespace LqX
open PySem PySem.Spec PyProof.Rows
/-- what the written part says of an own exception class, made by newId, over B -/
structure XC (K : PySem.W.Frag) (C : Addr) (B newId : String) : Prop where
  cls : ∃ nm q N bs bm sn sub ab col dd k0 k1 k2 k3 k5, K.lookup C = some (excClassObj nm q C N bs bm true sn sub ab col dd k0 k1 k2 k3 k5 newId) ∧ PySem.LqX.Tl B bm
  sa : PySem.W.findIn K (.ref C) "__setattr__" = some (some (.builtin "object.__setattr__"))
  exC : PySem.W.subIn K (.ref C) (.type "BaseException") = some true
  tyC : PySem.W.typeIn K (.ref C) = some (.type "type")
  kC : PySem.W.keepIn K (.ref C) = true
section
variable {X : Cx} {pins : List (Addr × Obj)} {σ : St} {H : Hp} {s : Shared} {a C : Addr} {f : Str} {y : V} {u : Value} {A : Around} {B newId : String}
theorem set_first {Q : Unit → Shared → Prop} {E : Value → Shared → Prop} (T : XC X.K C B newId) (I : Inv X pins σ H s) (e : H a = some (exo a C none)) (hno : PySem.W.findIn X.K (.ref C) f = some none) (ry : RelV y u)
    (k : ∀ dx s', H dx = none → dx ≠ a → Inv X pins σ (upd (upd H dx (exd dx [(f, y)])) a (exo a C (some dx))) s' → Q () s') : wpAny (model X.prog X.w) A (setAttr (.ref a) f u) Q E s := by
  obtain ⟨nm, q, N, bs, bm, sn, sub, ab, col, dd, k0, k1, k2, k3, k5, hC, tl⟩ := T.cls
  have hcl : PySem.W.clsIn X.K C = some { name := nm, bases := bs, mro := .ref C :: bm, ns := N, qualname := q, hasDict := true, slotNames := sn, subclasses := sub, abstract := ab, collection := col, hasDel := false } := by
    unfold PySem.W.clsIn
    rw [hC] <;> rfl
  obtain ⟨t1, ho⟩ := exo_at I.hok e
  obtain ⟨hp, g, d, t, os⟩ := s
  refine PySem.W.set_plain I.kIn (ox := { cls := .ref C, dict := none, data := .fields #[.ref t1, .none, .none, .none, .bool false, .none] }) (od := none) ⟨ho, rfl, rfl, trivial⟩ T.sa ?_
  refine PySem.LqX.store_run (B := B) I.kIn ho hcl tl.cons rfl hno fun h2 tk2 dx kp dn dne hx2 ns2 => ?_
  have nd : H dx = none := I.hok.fresh dn
  have ne1 : ∀ {b : Addr} {o : Obj}, hp.get? b = some o → b ≠ dx := fun z => Nat.ne_of_lt (Nat.lt_of_lt_of_le (Heap.lt_size z) dn)
  have ne2 : ∀ {b : Addr}, H b = none → b ≠ a := fun {b} n z => by
    rw [z, e] at n
    cases n
  have U : Un X.fs [] H (upd (upd H dx (exd dx [(f, y)])) a (exo a C (some dx))) hp h2 :=
    ⟨fun b o z n _ _ => kp b o (ne2 n) z, fun b o z n _ _ => ⟨o.slots, kp b o (ne2 n) z⟩, fun b o z n _ => by rw [upd_ne (ne2 n), upd_ne (ne1 z)]; exact n, fun b o z _ => by
      by_cases hb : b = a
      · exact ⟨_, by rw [hb]; exact hx2⟩
      · exact ⟨o, kp b o hb z⟩, fun b xs z => by rw [upd_ne (at_ne e z exo_tup), upd_ne (ne_of_none z nd)]; exact z, fun b o v z => by rw [upd_ne (at_ne e z exo_frz), upd_ne (ne_of_none z nd)]; exact z,
      fun b ps z => ⟨#[], by rw [upd_ne (at_ne e z exo_tbl), upd_ne (ne_of_none z nd), z]; simp⟩⟩
  refine k dx _ nd dne (I.un (t' := tk2) U fun b o z => ?_)
  by_cases hb : b = a
  · subst hb
    rw [upd_same] at z
    cases z
    exact exo_ok hx2
  · rw [upd_ne hb] at z
    by_cases hd : b = dx
    · subst hd
      rw [upd_same] at z
      cases z
      exact exd_ok ns2 (relO_put (fs := []) ry fun _ => True.intro)
    · rw [upd_ne hd] at z
      refine (I.hok b o z).stay (fun c v hc q2 => kp c v ?_ q2) (fun c hc => by rw [upd_ne (at_ne e hc exo_own), upd_ne (ne_of_none hc nd)]; exact hc) fun c xs hc => by rw [upd_ne (at_ne e hc exo_tup), upd_ne (ne_of_none hc nd)]; exact hc
      rcases hc with hc | hc
      · rw [hc]
        exact hb
      · exact at_ne e hc exo_own
/-- self.f = e in such an __init__ -/
def tSetX (K : PySem.W.Frag) (C : Addr) (f : Str) (to te : TE) : TS := fun D σ H => te σ H fun y H1 => to σ H1 fun x H2 => ∃ a : Addr, x = .ref a ∧ H2 a = some (exo a C none) ∧ ∀ dx, H2 dx = none → dx ≠ a → D.nx σ (upd (upd H2 dx (exd dx [(f, y)])) a (exo a C (some dx)))
theorem ps_setX {o e : Expr} {to te : TE} {p' pos : Pos} (T : XC X.K C B newId) (hno : PySem.W.findIn X.K (.ref C) f = some none) (ho : PE X o to) (he : PE X e te) (hs : swapsWith e (some (.Attribute o f p')) pos.line X.env = pure false := by rfl) :
    PS X (.Assign [.Attribute o f p'] e pos) (tSetX X.K C f to te) := by
  refine ⟨fun pins s σ H D I h => ?_⟩
  refine plainObj_wpAny_Assign_Attribute (thn (he.run pins s σ H _ I h) fun v s1 ⟨y, H1, I1, r1, q1⟩ => thn (ho.run pins s1 σ H1 _ I1 q1) fun u s2 ⟨x, H2, I2, r2, a, ex, ea, q⟩ => ?_) hs
  subst ex
  obtain rfl : u = Value.ref a := r2
  exact set_first T I2 ea hno r1 fun dx s' n ne J => ⟨σ, _, J, q dx n ne⟩
/-- C(e): C's own __init__ keeps sp -/
theorem pmk_x {CX : CXT} {x : Str} {fI : Addr} {k : Nat} {fd : FuncData} {ps : List Str} {sp : Sp} {e : Expr} {es : List Expr} {ta : TA} {p pos : Pos} {bB : List Value} {initId : String} (FB : ExcBaseFacts B newId initId bB) (T : XC X.K C B newId)
    (iC : PySem.W.findIn X.K (.ref C) "__init__" = some (some (.ref fI))) (tI : PySem.W.typeIn X.K (.ref fI) = some (.type "function"))
    (F1 : FnOk X.prog X.w X.K X.mg X.base CX k fI fd ps sp) (hr : Room (k + 1) X.A) (hb : Binds X.K fd ps []) (hx : Passes CX X (fun _ _ _ => False)) (hg : Gl X x) (hm : X.mg x = some (.ref C)) (ha : PA X (e :: es) ta)
    (hdb : (x == ("__debug__" : Str)) = false := by decide) (he : starEach (e :: es) X.env = (false, eval e X.env) :: starEach es X.env := by rfl) (hpl : (backTo pos (starEach es X.env)).any (·.1) = false := by rfl) :
    L2N.PMk X (.Call (.Name x p) (e :: es) [] pos) (tMkO C sp [] ta) := by
  intro pins s σ H Q I h
  obtain ⟨nm, q, N, bs, bm, sn, sub, ab, col, dd, k0, k1, k2, k3, k5, hC, tl⟩ := T.cls
  refine wpAny_Call_Name_kw (ld_glob I hg hm ?_ hdb)
  refine PySem.W.callWith_K (h₀ := X.base) I.ok.mod.kin T.kC (thn (ha.run pos pins s σ H _ I h) fun us s1 ⟨vs, H1, I1, r1, hz, q1⟩ => ⟨I1.kIn, ?_⟩) he hpl
  show wpAny _ _ (call (.ref C) us) _ _ _
  obtain ⟨hp, g, dr, tk, os⟩ := s1
  have le1 : hp.objs.size ≤ hp.objs.size + 1 := Nat.le_succ _
  have hq := q1 (hp.objs.size + 1) (I1.hok.fresh le1)
  rw [List.append_nil] at hq
  have kp : ∀ b o, hp.get? b = some o → ((hp.push (PySem.W.kdv_tup us)).push (PySem.HandSPX.excO C hp.objs.size)).get? b = some o := fun b o z => Heap.get?_push_of_some _ (Heap.get?_push_of_some _ z)
  have hnew : ((hp.push (PySem.W.kdv_tup us)).push (PySem.HandSPX.excO C hp.objs.size)).get? (hp.objs.size + 1) = some (PySem.HandSPX.excO C hp.objs.size) := by heap_get
  have I2 : Inv X pins σ (upd H1 (hp.objs.size + 1) (exo (hp.objs.size + 1) C none)) ⟨(hp.push (PySem.W.kdv_tup us)).push (PySem.HandSPX.excO C hp.objs.size), g, dr, tk, os⟩ :=
    I1.laid (t' := tk) (a := hp.objs.size + 1) (o := exo (hp.objs.size + 1) C none) (h' := (hp.push (PySem.W.kdv_tup us)).push (PySem.HandSPX.excO C hp.objs.size)) kp le1 (exo_ok hnew)
  have r2 : Vals (V.ref (hp.objs.size + 1) :: vs) (Value.ref (hp.objs.size + 1) :: us) := .cons rfl r1
  have hl : (Value.ref (hp.objs.size + 1) :: us).length = ps.length := by
    rw [← r2.length]
    exact F1.len _ _ _ _ hq
  have bnd := hb _ (Value.ref (hp.objs.size + 1) :: us) I2.kIn (by rw [List.append_nil]; exact hl)
  rw [List.append_nil] at bnd
  refine wpAny_call (PySem.LqX.make_run FB tl (I1.kIn _ _ hC) (PySem.W.looks_findIn I1.kIn iC) (fun self => PySem.W.bind_fn I1.kIn self tI) (by rw [← Paired.length r1, sizeLine_eq]; omega)
    (codeAny_mono (F1.run _ X.stack _ _ ⟨Value.ref (hp.objs.size + 1) :: us, []⟩ (Value.ref (hp.objs.size + 1) :: us) _ _ (fun _ _ _ => False) (hr.make C us []) (I2.env0.make C us []) bnd r2 hq) fun r s' hq' => ?_))
  cases r with
  | error er => exact hx pins σ _ _ er s' I2 hq'
  | ok fl =>
    cases fl with
    | ret u =>
      obtain ⟨v, H2, os2, bare2, un2, hok2, rv, ev, d, fs, ea, ed, hd1, q2⟩ := hq'
      subst ev
      obtain ⟨h2, g2, d2, t2, os'⟩ := s'
      obtain ⟨t0, G, J, kG, ge, hoe, na⟩ := mk_end0 (d2 := d2) (t2 := t2) I1 le1 kp un2 hok2 os2 bare2 ea ed hd1
      exact ⟨rv, hp.objs.size + 1, _, _, ⟨G, g2, d2, t2, os'⟩, _, .ref C, some d, rfl, J, kG, ge, hoe, ⟨rfl, rfl, fun ws z => by cases z; rfl⟩, rfl, rfl, na, rfl, bare2, raises_own T.exC T.tyC, q2⟩
    | next => exact False.elim hq'
    | brk => exact False.elim hq'
    | cont => exact False.elim hq'
/-- C(), an own exception class without __init__ -/
theorem pmk_0 {bB : List Value} {initId : String} {x : Str} {p pos : Pos} (FB : ExcBaseFacts B newId initId bB) (q : PySem.W.excIn X.K C bB newId = true) (gC : X.mg x = some (.ref C)) (kC : PySem.W.keepIn X.K (.ref C) = true) (r : Raises X (.ref C)) (hg : Gl X x)
    (hdb : (x == ("__debug__" : Str)) = false := by decide) : L2N.PMk X (.Call (.Name x p) [] [] pos) (fun _ H Q => Q (.ref C) none H) := by
  intro pins s σ H Q I h
  refine wpAny_Call_Name_kw (ld_glob I hg gC ?_ hdb)
  refine PySem.W.callWith_K0 I.kIn kC ?_
  show wpAny _ _ (call (.ref C) []) _ _ _
  obtain ⟨bm, N, nm, qn, bs, hdct, sn, sub, ab, col, dd, k0, k1, k2, k3, k5, mN, hC, hN, hni, T⟩ := exc_obj I.kIn q
  exact wpAny_call_exc_subT FB T hC hN hni (fun h' e hm => L2N.mk_of I hm r h (I.hok.gone hm.new)) (Nat.zero_le _)
end
/-! ### several clauses, each with the same name -/
/-- what the clauses wish, one after the other; slot i is the name's -/
def wAll (K : PySem.W.Frag) (i : Nat) (Wout : WX) (D : Ends) : List (Value × (Addr → Value → Option Addr → TS)) → WX
  | [] => Wout
  | (c, ts) :: r => fun cls d σ H => ∃ b, PySem.W.exmOne K cls c = some b ∧ (b = true → ∀ a, H a = none → ts a cls d { nx := fun σ' H' => D.nx (σ'.set i none) H', rt := D.rt, bk := fun σ' H' => D.bk (σ'.set i none) H', ct := fun σ' H' => D.ct (σ'.set i none) H' } (σ.set i (some (.ref a))) H) ∧
      (b = false → wAll K i Wout D r cls d σ H)
inductive Hds (X : Cx) (n : Str) : List ExceptHandler → List (Value × (Addr → Value → Option Addr → TS)) → Prop
  | nil : Hds X n [] []
  | cons {x : Str} {c : Value} {ts : Addr → Value → Option Addr → TS} {b0 : Stmt} {suite : List Stmt} {np pos' : Pos} {hds : List ExceptHandler} {l : List (Value × (Addr → Value → Option Addr → TS))} (hc : Names X x c)
      (hsu : ∀ (a : Addr) (oe : Obj) (cls : Value) (d : Option Addr) (pn : List (Addr × Obj)), L2N.Zn cls d oe → (∃ vs, oe.data = .fields vs) → PSs (X.suite a ((a, oe) :: pn)) (b0 :: suite) (ts a cls d)) (r : Hds X n hds l) :
      Hds X n (.ExceptHandler (some (.Name x np)) (some n) (b0 :: suite) pos' :: hds) ((c, ts) :: l)
section
variable {X : Cx} {n : Str} {i : Nat} {body : List Stmt} {h0 : ExceptHandler} {hds : List ExceptHandler} {l : List (Value × (Addr → Value → Option Addr → TS))} {pos : Pos} {tb : WX → TS} {Wout : WX}
/-- an exception that has come to the ground, tried by the clauses -/
theorem clauses (hN : X.N.Nodup) (hi : X.N[i]? = some n) (hln : X.env.kindOf n = some .local) (hs : X.stack = X.env :: X.outer) (hf : X.env.frame = some X.env.locals) (tk : L2N.Takes X Wout) {D : Ends} {pins : List (Addr × Obj)} {σ : St} {H : Hp} {sI s' : Shared} {h3 B : Heap} {a : Addr} {cls : Value} {d : Option Addr}
    (J : Inv X pins σ H sI) (nb : ∀ b o, sI.heap.get? b = some o → b ∉ frs X.stack → B.get? b = some o) (fl : HandSPX.FlyingZ B (X.env :: X.outer) a (L2N.Zn cls d) h3) (up : sI.heap.UpToSlots h3) (os : s'.os = sI.os) (ag : AllBare s'.gens) (na : H a = none) :
    ∀ {hds : List ExceptHandler} {l : List (Value × (Addr → Value → Option Addr → TS))}, Hds X n hds l → wAll X.K i Wout D l cls d σ H → wpAny (model X.prog X.w) X.A (handleBy (.ref a) X.env hds) (SP X pins D) X.xe { s' with heap := h3 } := by
  have ok := J.ok
  have J3 : Inv X pins σ H { s' with heap := h3 } := J.landed nb fl.1 up os ag
  obtain ⟨oe3, vs3, he3, hz3, hd3⟩ := fl.there
  have nfr : a ∉ frs (X.env :: X.outer) := fun hm => by
    obtain ⟨_, o2, e2, hnf⟩ := fl.2.2.1.mem hm
    rw [he3] at e2
    cases e2
    exact hnf _ hd3
  have nL : a ≠ X.env.locals := fun z => nfr (List.mem_filterMap.mpr ⟨X.env, List.mem_cons_self, by rw [hf, z]⟩)
  have nF : a ∉ X.fs := fun hm => by
    obtain ⟨e, he, q⟩ := List.mem_filterMap.mp hm
    exact nfr (List.mem_filterMap.mpr ⟨e, List.mem_cons_of_mem _ he, q⟩)
  have S3 := J3.suite he3 hd3 na nL nF
  intro hds l hk
  induction hk with
  | nil =>
    intro w
    refine wpAny_handleBy_nil ?_
    obtain ⟨_, _, _, oe, vs, T, oT, ts', he, hz, hd, h1, _⟩ := id fl
    unfold PySem.passOn
    refine wpAny_bind (wpAny_field he hd h1 ?_)
    rw [if_neg (by simp : ¬ ((Value.ref T == Value.none) = true))]
    have fin : wpAny (model X.prog X.w) X.A (setFlight (.ref a) X.env.frame) (fun _ s4 => wpAny (model X.prog X.w) X.A (throw (.ref a) : Sem Flow) (SP X pins D) X.xe s4) X.xe { s' with heap := h3 } := by
      rw [hf]
      exact HandSPX.setFlight_upZ fl fun h4 hh4 up4 => wpAny_throw (tk _ _ ⟨a, B, sI, pins, σ, H, cls, d, rfl, J, nb, up.trans up4, .inr (.inr (by rw [hs]; exact hh4)), na, os, ag, w⟩)
    first
      | exact wpAny_bind (wpAny_pure (wpAny_bind fin))
      | exact wpAny_bind fin
  | @cons x c ts b0 suite np pos' hds2 l2 hc hsu r ih =>
    intro w
    obtain ⟨b, hb1, yes, no⟩ := w
    refine wpAny_handleBy_cons (codeAny_handlers_test ?_) (by intro q; cases q)
    have LT : PySem.W.Looks (model X.prog X.w) h3 (typeOf (.ref a)) cls := fun _ _ _ _ k q => wpAny_typeOf_ref (k _ _ he3) (by rw [hz3.1]; exact q)
    have LM := PySem.W.exm_one (M := model X.prog X.w) (J3.kIn) LT hb1
    have named : ∀ {Q : Value → Shared → Prop} {E : Value → Shared → Prop}, Q c { s' with heap := h3 } → wpAny (model X.prog X.w) (X.A.mark (some (.ref a))) (eval (.Name x np) X.env) Q E { s' with heap := h3 } := fun q => by
      obtain ⟨hg, hdbg, hm | ⟨hm, hv, hnn⟩⟩ := hc
      · exact ld_glob (X := X.suite a ((a, oe3) :: (X.pn ++ pins))) S3 hg hm q hdbg
      · exact ld_blt (X := X.suite a ((a, oe3) :: (X.pn ++ pins))) S3 hg hm hv q hnn hdbg
    refine named (LM.here ?_)
    cases b with
    | false => exact ih (no rfl)
    | true =>
      refine codeAny_handlers_suite_as (HandSPX.lands_againZ fl fun h4 fl4 up4 => ?_)
      have J4 : Inv X pins σ H { s' with heap := h4 } := J.landed nb fl4.1 (up.trans up4) os ag
      obtain ⟨oe4, vs4, he4, hz4, hd4⟩ := fl4.there
      refine store_ok (X := X.suite a ((a, oe4) :: (X.pn ++ pins))) (v := .ref a) (J4.suite he4 hd4 na nL nF) hN hi (.inl hln) rfl (fun s5 S5 => ?_) (.inr hln)
      refine wpAny_mono ((hsu a oe4 cls d (X.pn ++ pins) hz4 ⟨_, hd4⟩).run [] s5 _ H _ S5 (yes rfl a na)) (fun f s6 hsp => ?_) (fun _ _ z => False.elim z)
      have last : ∀ {σ6 : St} {H6 : Hp} {Q : Shared → Prop}, Inv (X.suite a ((a, oe4) :: (X.pn ++ pins))) [] σ6 H6 s6 → (∀ s7, Inv X pins (σ6.set i none) H6 s7 → Q s7) →
          wpAny (model X.prog X.w) X.A (do bindName X.env n .none; unbindBehindTheSuite X.env n pos') (fun _ s7 => Q s7) X.xe s6 := fun S6 hq => gone_ok (S6.unsuite ok) hN hi hln hq
      cases f with
      | ret u =>
        obtain ⟨v6, σ6, H6, S6, r6, q6⟩ := hsp
        exact last S6 fun s7 J7 => ⟨_, _, _, J7, r6, q6⟩
      | next =>
        obtain ⟨σ6, H6, S6, q6⟩ := hsp
        exact last S6 fun s7 J7 => ⟨_, _, J7, q6⟩
      | brk =>
        obtain ⟨σ6, H6, S6, q6⟩ := hsp
        exact last S6 fun s7 J7 => ⟨_, _, J7, q6⟩
      | cont =>
        obtain ⟨σ6, H6, S6, q6⟩ := hsp
        exact last S6 fun s7 J7 => ⟨_, _, J7, q6⟩
theorem ps_try_all (hs : X.stack = X.env :: X.outer) (hf : X.env.frame = some X.env.locals) (hN : X.N.Nodup) (hi : X.N[i]? = some n) (hln : X.env.kindOf n = some .local) (tk : L2N.Takes X Wout)
    (hb : ∀ (W : WX) (pn : List (Addr × Obj)) (xe : Value → Shared → Prop), L2N.Takes (X.tr pn xe) W → PassesOwn (model X.prog X.w) X.A X.env xe → PSs (X.tr pn xe) body (tb W))
    (hh : Hds X n (h0 :: hds) l) : PS X (.Try body (h0 :: hds) [] [] pos) (fun D σ H => tb (wAll X.K i Wout D l) D σ H) := by
  refine ⟨fun pins s σ H D I h => ?_⟩
  have ok := I.ok
  have hfr : X.A.frames = some (X.env :: X.outer) := by rw [ok.frames, hs]
  refine wpAny_Try_except (wpAny_mono ((hb (wAll X.K i Wout D l) (X.pn ++ pins) (fun e s₁ => wpAny (model X.prog X.w) X.A (noteFrame e X.env) (fun _ s₂ => wpAny (model X.prog X.w) X.A (setFlight e none) (fun _ s₃ =>
    wpAny (model X.prog X.w) X.A (handleBy e X.env (h0 :: hds)) (SP X pins D) X.xe s₃) X.xe s₂) X.xe s₁) (fun u s' xx => ?_) PassesOwn.looking).run [] s σ H D (I.toTry _) h) (fun f s1 hsp => ?_) (fun e s1 he => he))
  · obtain ⟨a, B, sI, pins', σ', H', cls, d, rfl, J', nb, up, sky, na, os, ag, w⟩ := xx
    show wpAny (model X.prog X.w) X.A (noteFrame (.ref a) X.env) _ _ _
    exact L2N.Sky.land L2N.Zn.steady hfr hf (by rw [← hs]; exact sky) fun h3 fl3 up3 => clauses hN hi hln hs hf tk (J'.ofTry ok) nb fl3 (up.trans up3) os ag na hh w
  · cases f with
    | ret u =>
      obtain ⟨v, σ', H', J', r, q⟩ := hsp
      exact ⟨v, σ', H', J'.ofTry ok, r, q⟩
    | next =>
      obtain ⟨σ', H', J', q⟩ := hsp
      exact wpAny_execs_nil ⟨σ', H', J'.ofTry ok, q⟩
    | brk =>
      obtain ⟨σ', H', J', q⟩ := hsp
      exact ⟨σ', H', J'.ofTry ok, q⟩
    | cont =>
      obtain ⟨σ', H', J', q⟩ := hsp
      exact ⟨σ', H', J'.ofTry ok, q⟩
end
end LqX
end L2


set_option Elab.async false
set_option linter.all false
set_option maxRecDepth 100000
set_option maxHeartbeats 4000000
namespace PySem
namespace LqX
open PySem.W PySem.Calls PyProof.Rows
section
variable {prog : Program} {w : World} {A : Around} {E : Value → Shared → Prop} {s : Shared} {K : Frag} {x D : Addr} {ox : Obj}
/-- e.__class__ of an exception, with or without a dict -/
theorem class_run {od : Option Obj} {Q : Option Value → Shared → Prop} (hga : findIn K (.ref D) "__getattribute__" = some (some (.builtin "BaseException.__getattribute__"))) (hgt : findIn K (.ref D) "__getattr__" = some none) (hsub : subIn K (.ref D) (.type "BaseException") = some true)
    (hdct : hasDictIn K D = true) (ha : findIn K (.ref D) "__class__" = some (some (.builtin "object.__class__"))) (hn : specialIn K (.builtin "object.__class__") "__get__" = some (some (.builtin "getset_descriptor.__get__"))) (htk : takesIn K (.builtin "object.__class__") = some true)
    (hm : mroIn K D (.type "object") = some true) (X : K.In s.heap) (I : W.InstAt s.heap x ox D od) (h : Q (some (.ref D)) { s with toks := s.toks + 1 }) : wpAny (model prog w) A (getAttr? (.ref x) "__class__") Q E s := by
  have hf : findObj K D od "__class__" = some (.bind (.builtin "getset_descriptor.__get__") (.builtin "object.__class__")) := by
    obtain ⟨cd, hc, _⟩ := any_some hdct
    unfold findObj
    rw [hc, Option.bind_some, ha, Option.bind_some]
    simp [hn, htk]
  obtain ⟨hp, g, d, t, os⟩ := s
  have l0 := I.type (M := model prog w)
  have l1 := looks_findIn (M := model prog w) X hga
  have l2 := looks_findIn (M := model prog w) X hgt
  have l3 := looks_find (M := model prog w) X I hf
  have sb : Looks (model prog w) hp (isInstance (.ref x) (.type "BaseException")) true := l0.andThen (looks_subIn X hsub)
  have n1 : (Value.builtin "BaseException.__getattribute__" == Value.builtin "object.__getattribute__") = false := by decide +kernel
  have n2 : (onTheHeap (Value.ref D) && Value.builtin "BaseException.__getattribute__" == Value.builtin "object.__getattribute__") = false := by rw [n1]; rfl
  have n3 : (false && onTheHeap (Value.builtin "BaseException.__getattribute__")) = false := rfl
  unfold getAttr? getAttrBy? getAttrBy
  refine wpAny_bind (wpAny_mkText (wpAny_bind (wpAny_attempt (wpAny_holding (wpAny_bind (l0.at (wpAny_bind (l1.at ?_))))))))
  show wpAny _ _ (if (onTheHeap (Value.ref D) && Value.builtin "BaseException.__getattribute__" == Value.builtin "object.__getattribute__") = true then _ else _) _ _ _
  rw [n2, if_neg Bool.false_ne_true]
  unfold getAttrByItsOwn hookBefore
  refine wpAny_bind ?_
  have n4 : onTheHeap (Value.ref D) = true := rfl
  rw [if_pos n4]
  refine l2.at (wpAny_bind (wpAny_attempt (wpAny_holding ?_)))
  unfold callGetattribute
  rw [n3, if_neg Bool.false_ne_true]
  unfold boundAndCalled
  rw [PySem.F.excAttr_ValueError.ga.bind (.ref x)]
  refine wpAny_bind (wpAny_pure ?_)
  show wpAny _ _ (call (.builtin "BaseException.__getattribute__") [.ref x, .str "__class__" t]) _ _ _
  refine wpAny_call (codeAny_call_builtin PySem.F.excAttr_ValueError.ga.plain PySem.F.entry_bexc_ga (@check_slot (model prog w) _ _ ⟨hp, g, d, t + 1, os⟩ "BaseException.__getattribute__" "BaseException" "__getattribute__" (.ref x) [.str "__class__" t] [] _ (by decide +kernel) (by decide +kernel) sb (PySem.F.args_bexc_ga (.ref x) (.str "__class__" t)) ?_))
  unfold Builtin.«object.__getattribute__»
  refine wpAny_bind (wpAny_of_eq (a := ((Value.ref x : Value), [Value.str "__class__" t])) (by first | rfl | (simp only [slotArgs]; rfl)) (wpAny_bind (wpAny_pure (wpAny_bind (l0.at (wpAny_bind (l3.at ?_)))))))
  show wpAny _ _ (holding [Value.builtin "object.__class__"] (call (.builtin "getset_descriptor.__get__") [.builtin "object.__class__", .ref x, .ref D]) >>= ret) _ _ _
  refine wpAny_bind (wpAny_holding (wpAny_call (class_get (s := ⟨hp, g, d, t + 1, os⟩) (ox := ox) (od := od) X I hm (wpAny_pure ?_))))
  show wpAny _ _ (handedOut (.ref D)) _ _ _
  rw [handedOut_of (v := .ref D) rfl]
  first
    | exact wpAny_pure (wpAny_pure h)
    | exact wpAny_pure h
    | exact wpAny_pure (wpAny_bind (wpAny_pure (wpAny_pure h)))
theorem kit_exc (hga : findIn K (.ref D) "__getattribute__" = some (some (.builtin "BaseException.__getattribute__"))) (hgt : findIn K (.ref D) "__getattr__" = some none) (hsub : subIn K (.ref D) (.type "BaseException") = some true) (hdct : hasDictIn K D = true)
    (ha : findIn K (.ref D) "__class__" = some (some (.builtin "object.__class__"))) (hn : specialIn K (.builtin "object.__class__") "__get__" = some (some (.builtin "getset_descriptor.__get__"))) (htk : takesIn K (.builtin "object.__class__") = some true)
    (hm : mroIn K D (.type "object") = some true) : KitX K (.ref x) (.ref D) (fun h => ∃ od, W.InstAt h x ox D od) := by
  have key := handS_kitx_exc (x := x) (ox := ox) hga hgt hsub hdct ha hn htk hm
  refine ⟨fun _ _ _ ⟨_, I⟩ => I.type, fun M h X ⟨_, I⟩ => ?_, key.ne, fun X ⟨_, I⟩ k => class_run hga hgt hsub hdct ha hn htk hm X I k⟩
  obtain ⟨cd, hc, _⟩ := any_some hdct
  unfold clsIn at hc
  split at hc
  · rename_i c' d' cd' sl' ho
    intro A' Q' E' s' k q
    unfold isType loadHead
    exact wpAny_bind (wpAny_loadPart (k _ _ (X _ _ ho)) (wpAny_pure q))
  · cases hc
end
end LqX
end PySem
/-! Defs that are called in an except suite and are handed the exception -/
namespace L2
namespace LqX
open PySem PySem.Spec PyProof.Rows L2H
/-- the exception at a, as the suite holds it -/
structure Hnd (A : Around) (a : Addr) (cls : Value) (d : Option Addr) (oe : Obj) : Prop where
  hot : Hot1 A (a, oe)
  z : L2N.Zn cls d oe
  fl : ∃ vs, oe.data = .fields vs
theorem hnd_suite {A : Around} {a : Addr} {cls : Value} {d : Option Addr} {oe : Obj} (z : L2N.Zn cls d oe) (fl : ∃ vs, oe.data = .fields vs) : Hnd (A.mark (some (.ref a))) a cls d oe := by
  obtain ⟨vs, e⟩ := fl
  exact ⟨⟨rfl, vs, e, z.2.2 vs e⟩, z, ⟨vs, e⟩⟩
/-- a def's promise while the exception at a (of the class cls, its dict d) is handled -/
structure FnE (P : Program) (w : World) (K : PySem.W.Frag) (mg : Str → Option Value) (base : Heap) (k : Nat) (f : Addr) (fd : FuncData) (ps : List Str) (a : Addr) (cls : Value) (d : Option Addr) (sp : Sp) : Prop where
  len : ∀ vs H Q E, sp vs H Q E → vs.length = ps.length
  run : ∀ (A : Around) (outer : List Env) (s : Shared) (H : Hp) (args : Args) (us : List Value) (vs : List V) (Q : VK) (E : XK) (oe : Obj), RoomH k A → Hnd A a cls d oe → PinOk outer H s (a, oe) → Env0 P w K mg base A outer s H →
    BindsTo s fd args (ps.zip us) → Vals vs us → sp vs H Q E → codeAny (model P w) A (.call (.ref f) args) (CR CX0 outer P w H s Q E) s
theorem Fun.okE {P : Program} {w : World} {K : PySem.W.Frag} {mg : Str → Option Value} {base : Heap} {x qual : Str} {st : Stmt} {f : Addr} {fd : FuncData} {N ps : List Str} {k : Nat} {a : Addr} {cls : Value} {d : Option Addr} {sp : Sp} (F : Fun K x qual st f fd) (S : FnScope N ps (defScope st))
    (len : ∀ vs H Q E, sp vs H Q E → vs.length = ps.length)
    (body : ∀ (cdv : Value) (A : Around) (outer : List Env) (s : Shared) (H : Hp) (vs : List V) (Q : VK) (E : XK) (oe : Obj), Hnd A a cls d oe → RoomH k (A.deeper (envOfC qual (defScope st) s.heap.objs.size f cdv)) → sp vs H Q E →
      ∃ t, PSs (cxH CX0 P w K mg base N qual (defScope st) f cdv A outer s H E (a, oe)).nox (defBody st) t ∧ t { nx := fun _ H' => Q .non H', rt := Q } (L2.start N vs) H) : FnE P w K mg base (k + 1) f fd ps a cls d sp := by
  obtain ⟨oc, od, kV, doc, pm, an, cdv, ct, osl, rfl, lk, hcd⟩ := F.ex
  refine ⟨len, fun A outer s H args us vs Q E oe hr hn pin e0 bnd r want => ?_⟩
  have KX : K.In s.heap := e0.mod.kin.keeps fun b o e => (e0.bs b o e).1
  have lim : s.heap.NoLimit := e0.mod.nolimit.keeps fun b o e => (e0.bs b o e).1
  have kinds : ∀ y ∈ ps.zip us, (defScope st).names.lookup y.1 = some .local ∨ ((defScope st).names.lookup y.1 = some .cell ∧ ((cellsFrom (s.heap.objs.size + 1) (defScope st).names []).lookup y.1).isSome = true) := by
    rintro ⟨n, v⟩ hy
    exact (S.par n (List.of_mem_zip hy).1).elim .inl fun q => .inr ⟨q, PySem.W.cellsFrom_some _ _ _ (.inl q)⟩
  refine codeAny_call_function hr.depth (KX _ _ lk) rfl S.co S.gen rfl (PySem.W.codeRec_of KX hcd) (bnd _ _ _ _ ?_)
  refine wpAny_newFunctionEnv_cells S.kind kinds fun env he s1 x => ?_
  subst he
  refine ⟨lim.keeps x.toInCall.keep, codeAny_func ?_⟩
  obtain ⟨t, ht, ok⟩ := body cdv A outer s H vs Q E oe hn (hr.deeper _) want
  have I : Inv (cxH CX0 P w K mg base N qual (defScope st) f cdv A outer s H E (a, oe)) [] (L2.start N vs) H s1 := inv_startH S pin e0 (len _ _ _ _ want) r x
  refine wpAny_mono (ht.nox.run [] s1 (L2.start N vs) H _ I ok) (fun fl s' hs => ?_) fun e s' hs => hs
  cases fl with
  | ret u =>
    obtain ⟨v, σ', H', J, rv, q⟩ := hs
    exact ⟨v, H', J.os, J.bare, J.base, J.hok, rv, q⟩
  | next =>
    obtain ⟨σ', H', J, q⟩ := hs
    exact ⟨V.non, H', J.os, J.bare, J.base, J.hok, rfl, q⟩
  | brk => exact hs.elim fun _ z => z.elim fun _ z => z.2.elim
  | cont => exact hs.elim fun _ z => z.elim fun _ z => z.2.elim
section
variable {X : Cx} {k : Nat} {f : Addr} {fd : FuncData} {ps : List Str} {sp : Sp} {x : Str} {q pos : Pos} {e : Expr} {es : List Expr} {t : TA} {a : Addr} {cls : Value} {d : Option Addr} {oe : Obj}
/-- f(e, ..) in the suite -/
theorem pe_callE (F : FnE X.prog X.w X.K X.mg X.base k f fd ps a cls d sp) (hr : RoomH k X.A) (hn : Hnd X.A a cls d oe) (hp : (a, oe) ∈ X.pn) (hg : Gl X x) (hm : X.mg x = some (.ref f)) (hk : PySem.W.keepIn X.K (.ref f) = true) (hb : Binds X.K fd ps [])
    (ha : PA X (e :: es) t) (hdb : (x == ("__debug__" : Str)) = false := by decide) (he : starEach (e :: es) X.env = (false, eval e X.env) :: starEach es X.env := by rfl) (hpl : (backTo pos (starEach es X.env)).any (·.1) = false := by rfl) :
    PE X (.Call (.Name x q) (e :: es) [] pos) (fun σ H Q => t σ H fun vs H1 => sp vs H1 Q E0) := by
  refine ⟨fun pins s σ H Q I h => ?_⟩
  refine wpAny_Call_Name_kw (ld_glob I hg hm ?_ hdb)
  refine PySem.W.callWith_K (h₀ := X.base) I.ok.mod.kin hk (thn (ha.run pos pins s σ H _ I h) fun us s1 ⟨vs, H1, I1, r, w⟩ => ⟨I1.kIn, ?_⟩) he hpl
  have hl : us.length = ps.length := by rw [← r.length]; exact F.len _ _ _ _ w
  have b := hb s1 us I1.kIn (by rw [List.append_nil]; exact hl)
  rw [List.append_nil] at b
  have P1 := I1.pin (a, oe) (List.mem_append_left _ hp)
  have pin : PinOk X.stack H1 s1 (a, oe) := ⟨P1.1, P1.2.1, fun hm => (List.mem_cons.mp (I1.stkSub a hm)).elim P1.2.2.1 P1.2.2.2.1, P1.2.2.2.2⟩
  refine wpAny_call (codeAny_mono (F.run X.A X.stack s1 H1 ⟨us, []⟩ us vs Q E0 oe hr hn pin I1.env0 b r w) fun r s' hq => ?_)
  cases r with
  | error e => exact False.elim hq
  | ok fl =>
    cases fl with
    | ret u => exact I1.after hq
    | next => exact False.elim hq
    | brk => exact False.elim hq
    | cont => exact False.elim hq
/-- its dict, if it has one, is tracked -/
def DAt (H : Hp) (d : Option Addr) : Prop := ∀ dd, d = some dd → ∃ fs, H dd = some (.xd fs)
theorem inst_at {pins : List (Addr × Obj)} {σ : St} {H : Hp} {s : Shared} {D : Addr} (I : Inv X pins σ H s) (hp : (a, oe) ∈ X.pn) (hz : Zc (.ref D) d oe) (hf : ∃ vs, oe.data = .fields vs) (hd : DAt H d) : ∃ od, PySem.W.InstAt s.heap a oe D od := by
  obtain ⟨hget, _⟩ := I.pin (a, oe) (List.mem_append_left _ hp)
  obtain ⟨vs, hv⟩ := hf
  obtain ⟨oc, od, oda, osl⟩ := oe
  obtain ⟨h1, h2⟩ := hz
  dsimp only at h1 h2 hv
  subst h1 h2 hv
  cases od with
  | none => exact ⟨none, hget, rfl, rfl, trivial⟩
  | some dd =>
    obtain ⟨fs, e⟩ := hd dd rfl
    have z : ObjOk X.prog X.w H s.heap dd (.xd fs) := I.hok dd _ e
    obtain ⟨mA, ⟨o2, _, _, ho2, _⟩, _⟩ := z
    exact ⟨some o2, hget, rfl, rfl, ho2⟩
/-- isinstance(e, c) of the exception at a, of the class at D -/
def rIsX (K : PySem.W.Frag) (D a : Addr) (d : Option Addr) : List V → Hp → VK → Prop := fun xs H Q => ∃ (c : V) (cv : Value) (b : Bool), xs = [.ref a, c] ∧ (∀ u, RelV c u → u = cv) ∧ DAt H d ∧ PySem.W.kitOne K (.ref D) cv = some b ∧ Q (.bl b) H
theorem call_isX {D : Addr} (C : ExcC X.K D) (hp : (a, oe) ∈ X.pn) (hz : Zc (.ref D) d oe) (hf : ∃ vs, oe.data = .fields vs) : CallR X (.builtin "isinstance") (rIsX X.K D a d) := by
  intro pins s σ H xs us Q I r h
  obtain ⟨c, cv, b, rfl, hcv, hd, e, q⟩ := h
  cases r with
  | cons rx rr =>
    cases rr with
    | cons rt rr =>
      cases rr
      cases rx
      have ec := hcv _ rt
      subst ec
      exact PySem.W.kia_one (PySem.LqX.kit_exc C.hg C.hk C.hs C.hd C.ha C.hn C.ht C.hm) I.kIn (inst_at I hp hz hf hd) e (fun z => nomatch z) fun tk => ⟨.bl b, H, I.kept (t' := tk) fun _ _ z => z, rfl, q⟩
/-- e.f of the exception at a -/
def tFldX (a : Addr) (d : Option Addr) (f : Str) (te : TE) : TE := fun σ H Q => te σ H fun x H1 => x = .ref a ∧ ∃ (dd : Addr) (fs : List (Str × V)) (v : V), d = some dd ∧ H1 dd = some (.xd fs) ∧ fs.lookup f = some v ∧ Q v H1
theorem pe_fldX {D : Addr} {n : Str} {te : TE} (T : XfC X.K D) (hno : PySem.W.findIn X.K (.ref D) n = some none) (hp : (a, oe) ∈ X.pn) (hz : Zc (.ref D) d oe) (hf : ∃ vs, oe.data = .fields vs) (he : PE X e te)
    (hb : attributeBase e n X.env (eval e X.env) = eval e X.env := by rfl) : PE X (.Attribute e n pos) (tFldX a d n te) := by
  refine ⟨fun pins s σ H Q I h => ?_⟩
  refine attr_of hb (thn (he.run pins s σ H _ I h) fun u s1 hh => ?_)
  obtain ⟨x, H1, I1, rx, ex, dd, fs, v, ed, ea, l, q⟩ := hh
  subst ex ed
  obtain rfl : u = Value.ref a := rx
  obtain ⟨ha, _⟩ := I1.pin (a, oe) (List.mem_append_left _ hp)
  obtain ⟨vs, hv⟩ := hf
  have hx : ObjOk X.prog X.w H1 s1.heap dd (.xd fs) := I1.hok dd _ ea
  obtain ⟨mA, hns, hr⟩ := hx
  obtain ⟨od, ho, hl⟩ := lookIn_ns hns
  obtain ⟨u, hu, ru⟩ := RelO.some_of (v := v) (o := mA n) (by rw [← l]; exact hr n)
  have J : PySem.W.InstAt s1.heap a oe D (some od) := ⟨ha, hz.1, by unfold PySem.W.notCls; rw [hv] <;> rfl, by rw [hz.2]; exact ho⟩
  exact HandSPX.exc_get I1.kIn J T.ga T.gg T.exC (PySem.W.findObj_own T.hdC hno rfl (by rw [hl, hu])) (handed_of ru) ⟨v, H1, I1.tok _, ru, q⟩
end
end LqX
end L2


set_option Elab.async false
set_option linter.all false
set_option maxRecDepth 100000
set_option maxHeartbeats 4000000
/-! Walks and a comprehension while an exception is handled -/
namespace PySem
namespace LqX
open HotX
section
variable {prog : Program} {w : World} {A : Around} {E : Value → Shared → Prop} {s : Shared} {x1 : Addr}
theorem stopNew {Q : Value → Shared → Prop} (k : ∀ h2 e vs, (∀ b o, s.heap.get? b = some o → h2.get? b = some o) → s.heap.objs.size ≤ e → h2.get? e = some { cls := .type "StopIteration", data := .fields vs } → 2 < vs.size → Q (.ref e) { s with heap := h2 }) :
    wpAny (model prog w) A (newExc (.type "StopIteration") []) Q E s := by
  simp only [newExc, newTuple]
  refine wpAny_bind (wpAny_newObj_type (wpAny_bind (m := firstArgMember _ _) (wpAny_of_eq (a := Value.none) (by first | rfl | (simp only [firstArgMember]; rfl)) (wpAny_newObj_type ?_ (by size_fits)))) (by size_fits))
  refine k _ _ _ (fun b o z => Heap.get?_push_of_some _ (Heap.get?_push_of_some _ z)) ?_ (Heap.get?_push_size _ rfl) (by first | (simp; done) | (simp; omega) | (simp only [Array.size_append]; simp; omega))
  rw [Heap.size_push]
  exact Nat.le_succ _
theorem stopHot {α : Type} {Q : α → Shared → Prop} (hot : HotAt A x1 s.heap) (k : ∀ h2 e, (∀ b o, s.heap.get? b = some o → h2.get? b = some o) → (∃ o, h2.get? e = some o ∧ o.cls = .type "StopIteration") → E (.ref e) { s with heap := h2 }) :
    wpAny (model prog w) A (newExc (.type "StopIteration") [] >>= fun x => (raiseNew x : Sem α)) Q E s := by
  obtain ⟨hh, o1, v1, g1, d1, c1⟩ := hot
  refine wpAny_bind (stopNew fun h2 e vs kp le ge sz => ?_)
  have ne : x1 ≠ e := Nat.ne_of_lt (Nat.lt_of_lt_of_le (Heap.lt_size g1) le)
  refine raiseNew_hot (s := { s with heap := h2 }) ⟨hh, o1, v1, kp _ _ g1, d1, c1⟩ ne ge rfl sz (k _ e (fun b o z => ?_) ⟨_, Heap.get?_update_self _ ge rfl, rfl⟩)
  rw [Heap.get?_update_other _ _ (Nat.ne_of_gt (Nat.lt_of_lt_of_le (Heap.lt_size z) le))]
  exact kp b o z
theorem hotAt_keep {h2 : Heap} (hot : HotAt A x1 s.heap) (kp : ∀ b o, b = x1 → s.heap.get? b = some o → h2.get? b = some o) : HotAt A x1 h2 := by
  obtain ⟨hh, o1, v1, g1, d1, c1⟩ := hot
  exact ⟨hh, o1, v1, kp _ _ rfl g1, d1, c1⟩
/-- a tuple's walk is at its end -/
theorem tupleEnd {it t : Addr} {i : Nat} {items} {Q : Option Value → Shared → Prop} (hot : HotAt A x1 s.heap) (hit : s.heap.IsTupleIter it t i) (ht : s.heap.IsTuple t items) (hx : items[i]? = none) (hne : x1 ≠ it)
    (k : ∀ h2, Heap.ExtBut it s.heap h2 → Q none { s with heap := h2 }) : wpAny (model prog w) A (pyNext (.ref it)) Q E s := by
  obtain ⟨o, ho, hc, hd⟩ := id hit
  obtain ⟨ol, hol, _, nl, hdl⟩ := ht
  unfold pyNext
  refine wpAny_bind (wpAny_attempt (wpAny_callSpecial?_slot (name := Str.ofString "__next__") hit.typeIs F.slot_tuple_iterator_next (wpAny_call_entry F.slot_tuple_iterator_next hit.typeIs F.entry_tuple_iterator_next ?_ (F.args_tuple_iterator_next_1 _))))
  show wpAny _ _ (field (.ref it) 0 >>= _) _ _ s
  refine wpAny_bind (wpAny_field ho hd (x := .ref t) rfl ?_)
  have nn : ¬ ((Value.ref t == Value.none) = true) := Bool.false_ne_true
  show wpAny _ _ (if (Value.ref t == Value.none) = true then _ else _) _ _ s
  rw [if_neg nn]
  show wpAny _ _ (field (.ref it) 1 >>= _) _ _ s
  refine wpAny_bind (wpAny_field ho hd (x := .int i 0) rfl ?_)
  show wpAny _ _ (seqItems? (.ref t) >>= _) _ _ s
  refine wpAny_bind (wpAny_seqItems hol hdl ?_)
  simp only [Int.toNat_natCast, hx]
  refine wpAny_bind (wpAny_rule (wpAny_bind (wpAny_setField ho hd (by simp) ?_)))
  show wpAny _ _ (newExc (.type "StopIteration") [] >>= _) _ _ _
  refine stopHot (x1 := x1) (hotAt_keep hot fun b u z e => ?_) fun h2 e kp ex => ?_
  · exact (Heap.get?_update_other _ _ (fun y => hne (z.symm.trans y.symm))).trans e
  · obtain ⟨o2, ho2, hc2⟩ := ex
    refine wpAny_bind (wpAny_isInstance (T := "StopIteration") (b := true) ⟨o2, ho2, hc2⟩ isSubtype_stop (wpAny_pure (k h2 fun b u nb e2 => kp b u ((Heap.get?_update_other _ _ (Ne.symm nb)).trans e2))))
theorem unpackHot {t : Addr} {items : Array Value} {Q : List Value → Shared → Prop} (hot : HotAt A x1 s.heap) (ht : s.heap.IsTuple t items)
    (k : ∀ h2, Heap.ExtBut s.heap.objs.size s.heap h2 → Q items.toList { s with heap := h2 }) : wpAny (model prog w) A (unpackItems (.ref t) items.size none) Q E s := by
  have nt : t ≠ s.heap.objs.size := by
    obtain ⟨o, ho, _⟩ := ht
    exact Nat.ne_of_lt (Heap.lt_size ho)
  have nx : x1 ≠ s.heap.objs.size := by
    obtain ⟨_, o, _, ho, _⟩ := hot
    exact Nat.ne_of_lt (Heap.lt_size ho)
  unfold unpackItems notIterableAtAll
  refine wpAny_bind (wpAny_bind (wpAny_specialOf ht.typeIs F.slot_tuple_iter.lookup (wpAny_pure ?_)))
  simp only [Bool.false_eq_true, if_false]
  refine wpAny_bind (wpAny_holding (wpAny_pyIter_tuple ht (wpAny_bind (wpAny_holding (wpAny_draw_tuple nt items.size 0 _ _ ⟨_, Heap.get?_push_size _ rfl, rfl, rfl⟩ (ht.push _) (by omega) fun h1 hit1 sb1 => ?_)))))
  have all : List.take items.size (List.drop 0 items.toList) = items.toList := by
    rw [List.drop_zero]
    exact List.take_of_length_le (by simp)
  rw [all, if_neg (by simp)]
  have hot1 : HotAt A x1 h1 := hotAt_keep hot fun b u z e => sb1.extBut b u (by rw [z]; exact nx) (Heap.get?_push_of_some _ e)
  refine wpAny_bind (wpAny_holding (tupleEnd (s := { s with heap := h1 }) hot1 hit1 ((ht.push _).extBut sb1.extBut nt) (by simp) nx fun h2 ext2 => ?_))
  simp only [Option.isSome_none, Bool.false_eq_true, if_false]
  exact wpAny_pure (k h2 fun b u nb e => ext2 b u nb (sb1.extBut b u nb (Heap.get?_push_of_some _ e)))
theorem assignHot {env : Env} {elts : List Expr} {y1} {pos : Pos} {t : Addr} {items : Array Value} {Q : Unit → Shared → Prop} (hot : HotAt A x1 s.heap) (ht : s.heap.IsTuple t items) (hn : (assignEach elts env).length = items.size) (hst : (assignEach elts env).findIdx? (·.1) = none)
    (k : ∀ h2, Heap.ExtBut s.heap.objs.size s.heap h2 → wpAny (model prog w) A (assignInOrder ((assignEach elts env).map (·.2)) items.toList) Q E { s with heap := h2 }) : wpAny (model prog w) A (assign (.Tuple elts y1 pos) env (.ref t)) Q E s := by
  rw [arm_assign_Tuple]
  refine wpAny_bind (wpAny_standAt ?_)
  unfold unpack
  rw [hn, hst]
  exact wpAny_bind (wpAny_holding (unpackHot hot ht k))
/-- a list's walk under enumerate is at its end -/
theorem enumEnd {e it l : Addr} {i : Nat} {items : Array Value} {old : Value} {Q : Option Value → Shared → Prop} (hot : HotAt A x1 s.heap) (he : IsEnum s.heap e it i old) (hit : s.heap.IsListIter it l i) (hl : s.heap.IsList l items) (hx : items[i]? = none) (hne : x1 ≠ it)
    (k : ∀ h2, Heap.ExtBut it s.heap h2 → Q none { s with heap := h2 }) : wpAny (model prog w) A (pyNext (.ref e)) Q E s := by
  have ty : s.TypeIs (.ref e) "enumerate" := ⟨_, he, rfl⟩
  obtain ⟨o, ho, hc, hd⟩ := id hit
  obtain ⟨ol, hol, _, nl, hdl⟩ := hl
  unfold pyNext
  refine wpAny_bind (wpAny_attempt (wpAny_callSpecial?_slot (name := Str.ofString "__next__") ty F.slot_enumerate_next (wpAny_call_entry F.slot_enumerate_next ty F.entry_enumerate_next ?_ (F.args_enumerate_next_1 _))))
  show wpAny _ _ (field (.ref e) 2 >>= _) _ _ _
  refine wpAny_bind (wpAny_field he rfl (x := .ref it) rfl (wpAny_bind ?_))
  unfold Builtin.SmallTypes.nextOf
  refine wpAny_bind (wpAny_callSpecial?_slot (name := Str.ofString "__next__") hit.typeIs slot_listiter_next (wpAny_call_entry slot_listiter_next hit.typeIs entry_listiter_next ?_ (args_listiter_next _)))
  show wpAny _ _ (field (.ref it) 0 >>= _) _ _ s
  refine wpAny_bind (wpAny_field ho hd (x := .ref l) rfl ?_)
  have nn : ¬ ((Value.ref l == Value.none) = true) := Bool.false_ne_true
  show wpAny _ _ (if (Value.ref l == Value.none) = true then _ else _) _ _ s
  rw [if_neg nn]
  show wpAny _ _ (field (.ref it) 1 >>= _) _ _ s
  refine wpAny_bind (wpAny_field ho hd (x := .int i 0) rfl ?_)
  show wpAny _ _ (seqItems? (.ref l) >>= _) _ _ s
  refine wpAny_bind (wpAny_seqItems hol hdl ?_)
  simp only [Int.toNat_natCast, hx]
  refine wpAny_bind (wpAny_rule (wpAny_bind (wpAny_setField ho hd (by simp) ?_)))
  show wpAny _ _ (newExc (.type "StopIteration") [] >>= _) _ _ _
  refine stopHot (x1 := x1) (hotAt_keep hot fun b u z e => ?_) fun h2 e2 kp ex => ?_
  · exact (Heap.get?_update_other _ _ (fun y => hne (z.symm.trans y.symm))).trans e
  · obtain ⟨o2, ho2, hc2⟩ := ex
    exact wpAny_bind (wpAny_isInstance (T := "StopIteration") (b := true) ⟨o2, ho2, hc2⟩ isSubtype_stop (wpAny_pure (k h2 fun b u nb e3 => kp b u ((Heap.get?_update_other _ _ (Ne.symm nb)).trans e3))))
end
end LqX
end PySem
namespace L2
namespace LqX
open PySem PySem.Spec PyProof.Rows L2H
/-- wherever the context's states are, the handled exception stands -/
def HotI (X : Cx) : Prop := ∀ (pins : List (Addr × Obj)) (σ : St) (H : Hp) (s : Shared), Inv X pins σ H s → ∃ x1, HotX.HotAt X.A x1 s.heap ∧ (∀ b, FpOk X pins H b → x1 ≠ b) ∧ H x1 = none ∧ x1 ∉ frs X.stack
theorem hotI_of {X : Cx} {a : Addr} {cls : Value} {d : Option Addr} {oe : Obj} (hn : Hnd X.A a cls d oe) (hp : (a, oe) ∈ X.pn) : HotI X := fun pins σ H s I => by
  obtain ⟨hh, vs, e, c⟩ := hn.hot
  have hm : (a, oe) ∈ X.pn ++ pins := List.mem_append_left _ hp
  have P := I.pin (a, oe) hm
  exact ⟨a, ⟨hh, oe, vs, P.1, e, c⟩, fun b f => f.2.2.2.2.2 (a, oe) hm, P.2.1, fun z => (List.mem_cons.mp (I.stkSub a z)).elim P.2.2.1 P.2.2.2.1⟩
section
variable {X : Cx} {pos : Pos}
/-- (a, b, ..) = a tuple -/
theorem pg_tupH {es : List Expr} {k : Nat} {t : TGs} {n : Nat} (hot : HotI X) (h : PGs X es t) (hn : (assignEach es X.env).length = n := by rfl) (hst : (assignEach es X.env).findIdx? (·.1) = none := by rfl) : PG X (.Tuple es k pos) (gTup X.K n t) := by
  refine ⟨fun pins s σ H v u Q I r w => ?_⟩
  obtain ⟨a, xs, ea, hq, hl, w⟩ := w
  subst ea
  cases r
  obtain ⟨its, rv, ht, hz⟩ := I.tuple hq
  obtain ⟨x1, ha, _⟩ := hot pins σ H s I
  refine PySem.LqX.assignHot ha (show s.heap.IsTuple a its.toArray from ht) (by simp [hn, ← hl, rv.length]) hst fun h2 ext => ?_
  have I1 : Inv X pins σ H { s with heap := h2 } := I.kept (t' := s.toks) fun b o e => ext b o (Nat.ne_of_lt (Heap.lt_size e)) e
  exact h.run pins _ σ H xs _ Q I1 (by simpa using rv) w
abbrev tnE (a e it : Addr) (i : Nat) (h : Heap) : Prop := (∃ old, IsEnum h e it ((i : Nat) : Int) old) ∧ h.IsListIter it a i ∧ e ≠ it
theorem enum_item {elts : List Expr} {kk : Nat} {tpos : Pos} {a e it : Addr} {i : Nat} {pins : List (Addr × Obj)} {s : Shared} {σ : St} {H : Hp} {E : Value → Shared → Prop} (I : Inv X pins σ H s) (hf : ∀ b ∈ [e, it], FpOk X pins H b) (st : tnE a e it i s.heap) (go : (Ite X.K a).go i H) :
    wpAny (model X.prog X.w) X.A (pyNext (.ref e)) (fun r s1 => ∃ u, r = some u ∧ wpAny (model X.prog X.w) X.A (letOwnedTupleGo (.Tuple elts kk tpos) (.ref e) u) (fun _ s2 => ∃ x H', Inv X pins σ H' s2 ∧ RelV x u ∧ (Ite X.K a).yld i H x H' ∧ tnE a e it (i + 1) s2.heap ∧ ∀ b ∈ [e, it], H' b = none) E s1) E s := by
  obtain ⟨⟨old, he⟩, hit, ne⟩ := st
  obtain ⟨xs, x, hq, hx⟩ := go
  obtain ⟨its, rv, pl, hz⟩ := I.list hq
  obtain ⟨u, hu, ru⟩ := rv.get hx
  have le : e < s.heap.objs.size := Heap.lt_size he
  have li : it < s.heap.objs.size := by
    obtain ⟨_, z, _⟩ := hit
    exact Heap.lt_size z
  refine wpAny_pyNext_enum_item he hit pl.isList (x := u) (by simpa using hu) ne fun h1 out hit1 tup sz kp => ⟨_, rfl, wpAny_letOwnedTupleGo_enum (s := { s with heap := h1, toks := s.toks + 1 }) out fun h2 he2 sb => ?_⟩
  have tup2 := (sb.2 _ (Nat.ne_of_gt le)).trans tup
  have J : Inv X pins σ (upd H s.heap.objs.size (.tup [.int (i : Nat), x])) { s with heap := h2, toks := s.toks + 1 } := by
    refine I.turnedNew (ch := [e, it]) (fun b ob nb z => (sb.2 b (fun y => nb (by simp [y]))).trans (kp b ob (fun y => nb (by simp [y])) (fun y => nb (by simp [y])) z)) hf (Nat.le_refl _) ?_
    exact ⟨by show 2 ≤ sizeLine; decide, [.int i s.toks, u], .cons ⟨_, rfl⟩ (.cons ru .nil), ⟨_, tup2, rfl, _, rfl⟩⟩
  refine ⟨.ref s.heap.objs.size, _, J, rfl, ⟨_, x, rfl, I.hok.fresh (Nat.le_refl _), rfl, fun ys hy => by rw [I.list_inj hy hq]; exact hx⟩, ⟨⟨u, ?_⟩, hit1.at fun o z => (sb.2 it (Ne.symm ne)).trans z, ne⟩, fun b hb => ?_⟩
  · rw [show ((i + 1 : Nat) : Int) = (i : Int) + 1 by omega]
    exact he2
  · have lb : b < s.heap.objs.size := by
      rcases List.mem_cons.mp hb with z | z
      · rw [z]
        exact le
      · rw [List.mem_singleton.mp z]
        exact li
    rw [upd_ne (Nat.ne_of_lt lb)]
    exact (hf b hb).1
theorem enum_done {a e it : Addr} {i : Nat} {pins : List (Addr × Obj)} {s : Shared} {σ : St} {H : Hp} {E : Value → Shared → Prop} (hot : HotI X) (I : Inv X pins σ H s) (hf : ∀ b ∈ [e, it], FpOk X pins H b) (st : tnE a e it i s.heap) (stop : (Ite X.K a).stop i H) :
    wpAny (model X.prog X.w) X.A (pyNext (.ref e)) (fun r s1 => r = none ∧ Inv X pins σ H s1) E s := by
  obtain ⟨⟨old, he⟩, hit, ne⟩ := st
  obtain ⟨xs, hq, hx⟩ := stop
  obtain ⟨its, rv, pl, hz⟩ := I.list hq
  have fi := hf it (by simp)
  obtain ⟨x1, ha, nx, _⟩ := hot pins σ H s I
  have hl := rv.length
  exact PySem.LqX.enumEnd ha he hit pl.isList (by simp; omega) (nx it fi) fun h2 ext => ⟨rfl, I.turned (t' := s.toks) (fun b o nb z => ext b o nb z) fi.1 fi.2.1 fi.2.2.2.1 fi.2.2.2.2.1 fi.2.2.2.2.2⟩
/-- within a comprehension's block -/
theorem hotI_blk {pins : List (Addr × Obj)} {σ : St} {H : Hp} {s : Shared} {scope : Scope} {cenv : Env} {fp : List Addr} (hot : HotI X) (I : Inv X pins σ H s) (hf : ∀ b ∈ fp, FpOk X pins H b) : HotI (X.blk s H scope cenv fp) := fun pins' σ' H' s' I' => by
  obtain ⟨x1, ha, nx, hn, nf⟩ := hot pins σ H s I
  obtain ⟨hh, o, vs, e, d, c⟩ := ha
  have ne : x1 ∉ fp := fun z => nx x1 (hf x1 z) rfl
  refine ⟨x1, ⟨hh, o, vs, I'.base.keep x1 o e hn nf ne, d, c⟩, fun b f => ?_, I'.base.free x1 o e hn ne, nf⟩
  rcases f.2.2.2.1 with z | z
  · exact fun y => ne (y ▸ z)
  · exact Nat.ne_of_lt (Nat.lt_of_lt_of_le (Heap.lt_size e) z)
/-- [elt for a, b in enumerate(e) if ..] while an exception is handled -/
theorem pe_lcE {elt e : Expr} {elts : List Expr} {kk : Nat} {tpos p posE : Pos} {ifs : List Expr} {scope : Scope} {own : List (Str × Nat)} {ta : TA} {g : TG} {tt : TT} {te : TE} (hot : HotI X) (hN : X.N.Nodup) (gl : Gl X "enumerate") (mm : X.mg "enumerate" = none) (ha : PA X [e] ta)
    (ok : BlkOk X.N X.env.scope scope own)
    (hg : ∀ (s : Shared) (H : Hp) (C : Addr) (cl : List (Str × Addr)) (fp : List Addr), HotI (X.blk s H scope (compEnvC scope cl C X.env) fp) → PG (X.blk s H scope (compEnvC scope cl C X.env) fp) (.Tuple elts kk tpos) g)
    (ht : ∀ (s : Shared) (H : Hp) (C : Addr) (cl : List (Str × Addr)) (fp : List Addr), PTs (X.blk s H scope (compEnvC scope cl C X.env) fp) ifs tt)
    (he : ∀ (s : Shared) (H : Hp) (C : Addr) (cl : List (Str × Addr)) (fp : List Addr), PE (X.blk s H scope (compEnvC scope cl C X.env) fp) elt te)
    (hs : ∀ x, foldedSetIterable (.Call (.Name "enumerate" p) [e] [] posE) X.env x = pure x := by intro _; rfl) (hst : starEach [e] X.env = [(false, eval e X.env)] := by rfl) :
    PE X (.ListComp elt [⟨.Tuple elts kk tpos, .Call (.Name "enumerate" p) [e] [] posE, ifs, 0⟩] scope pos) (tLc (iEnum X.K ta) g tt te (own.map (·.2))) := by
  refine ⟨fun pins s σ H Q I h => ?_⟩
  rw [eval_ListComp]
  have hfree : ∀ y ∈ scope.names, y.2 = .free → ∃ c, X.env.cells.lookup y.1 = some c := fun y hy z => (ok.free y hy z).elim (fun q => I.ok.has _ (.inl q)) fun q => I.ok.has _ (.inr q)
  refine wpAny_comprehension_free (use := none) rfl hs (closure_ok hfree) ok.kind (fun y hy z => by rw [ok.uniq y hy, z])
    (Call_ (ld_blt I gl mm boot_enumerate (PyProof.Rows.callWith_type1 (thn (ha.run posE pins s σ H _ I h) fun us s1 ⟨vs, H2, I1, r1, q1⟩ => ?_) hst rfl)))
  obtain ⟨a, xs, ex, hq, q⟩ := q1
  subst ex
  cases r1 with
  | cons r rr =>
  cases rr
  cases r
  obtain ⟨its, rv, pl, hz⟩ := I1.list hq
  refine call_enumerate_list pl.isList fun h1 en li sz kp => wpAny_pyIter_enum en ?_
  have I2 : Inv X pins σ H2 { s1 with heap := h1 } := I1.kept (t' := s1.toks) kp
  generalize hs2 : ({ s1 with heap := h1 } : Shared) = s2 at I2 ⊢
  have hs2h : s2.heap = h1 := by rw [← hs2]
  have tn0 : tnE a (s1.heap.objs.size + 1) s1.heap.objs.size 0 s2.heap := by
    rw [hs2h]
    exact ⟨⟨.none, en⟩, li, Nat.succ_ne_self _⟩
  have f2 : ∀ b ∈ [s1.heap.objs.size + 1, s1.heap.objs.size], FpOk X pins H2 b := fun b hb => by
    have hle : s1.heap.objs.size ≤ b := by
      rcases List.mem_cons.mp hb with z | z
      · rw [z]
        exact Nat.le_add_right _ _
      · exact Nat.le_of_eq (List.mem_singleton.mp z).symm
    exact I1.fpOk hle (I1.hok.fresh hle)
  clear kp li en
  clear sz
  generalize s1.heap.objs.size = i0 at tn0 f2 ⊢
  generalize i0 + 1 = e0 at tn0 f2 ⊢
  have T := turn_enum (P := X.prog) (w := X.w) (K := X.K) (elts := elts) (kk := kk) (tpos := tpos) a e0 i0
  refine wpAny_newObj_type (newEnv_comp ?_) (by show 0 ≤ sizeLine; decide)
  generalize hD : s2.heap.objs.size = D
  obtain ⟨W, ⟨m0, w0⟩, turn⟩ := q D (I2.hok.fresh (Nat.le_of_eq hD))
  generalize hs3 : ({ s2 with heap := s2.heap.push { cls := .type "list", data := .seq ([] : List Value).toArray } } : Shared) = s3
  have h3 : s3.heap = s2.heap.push { cls := .type "list", data := .seq ([] : List Value).toArray } := by rw [← hs3]
  have I3 : Inv X pins σ (upd H2 D (.lst [])) s3 := by
    rw [← hs3]
    refine I2.laid (t' := s2.toks) (fun b o z => Heap.get?_push_of_some _ z) (Nat.le_of_eq hD) ⟨Nat.zero_le _, [], 0, .nil, ?_⟩
    rw [← hD]
    exact Heap.get?_push_size _ rfl
  have lt2 : ∀ b ∈ [e0, i0], b < s2.heap.objs.size := fun b hb => by
    obtain ⟨o, z, _⟩ := T.obj _ _ tn0 b hb
    exact Heap.lt_size z
  have f3 : ∀ b ∈ [e0, i0], FpOk X pins (upd H2 D (.lst [])) b := fun b hb => ⟨by rw [upd_ne (by rw [← hD]; exact Nat.ne_of_lt (lt2 b hb))]; exact (f2 b hb).1, (f2 b hb).2⟩
  have lt3 : ∀ b ∈ [e0, i0], b < s3.heap.objs.size := fun b hb => by
    rw [h3, Heap.size_push]
    exact Nat.lt_succ_of_lt (lt2 b hb)
  have tn3 : tnE a e0 i0 0 s3.heap := T.keep _ _ _ tn0 fun b _ o z => by rw [h3]; exact Heap.get?_push_of_some _ z
  have I4 := block_start I3 ok hN fun b hb => ⟨f3 b hb, lt3 b hb⟩
  show codeAny _ _ (.compStart (.ListComp elt [⟨.Tuple elts kk tpos, .Call (.Name "enumerate" p) [e] [] posE, ifs, 0⟩] scope pos) 0 (.ref e0) (.ref D) (compEnvC scope (cellsFrom (s3.heap.objs.size + 1) scope.names (cloFrom X.env.cells scope.names [])) s3.heap.objs.size X.env)) (compPost (model X.prog X.w) X.A X.xe none _ (.ref D) s3.heap.objs.size) { s3 with heap := pushCells (s3.heap.push { cls := .type "dict", data := .dict #[] }) scope.names }
  have pt := ht s3 (upd H2 D (.lst [])) s3.heap.objs.size (cellsFrom (s3.heap.objs.size + 1) scope.names (cloFrom X.env.cells scope.names [])) [e0, i0]
  have pe := he s3 (upd H2 D (.lst [])) s3.heap.objs.size (cellsFrom (s3.heap.objs.size + 1) scope.names (cloFrom X.env.cells scope.names [])) [e0, i0]
  have hotB : HotI (X.blk s3 (upd H2 D (.lst [])) scope (compEnvC scope (cellsFrom (s3.heap.objs.size + 1) scope.names (cloFrom X.env.cells scope.names [])) s3.heap.objs.size X.env) [e0, i0]) := hotI_blk hot I3 f3
  have pg := hg s3 (upd H2 D (.lst [])) s3.heap.objs.size (cellsFrom (s3.heap.objs.size + 1) scope.names (cloFrom X.env.cells scope.names [])) [e0, i0] hotB
  have nfp : ∀ b ∈ [e0, i0], (upd H2 D (.lst [])) b = none := fun b hb => (f3 b hb).1
  generalize hce : compEnvC scope (cellsFrom (s3.heap.objs.size + 1) scope.names (cloFrom X.env.cells scope.names [])) s3.heap.objs.size X.env = ce at I4 pg pt pe hotB ⊢
  have cL : ce.locals = s3.heap.objs.size := by
    subst hce
    rfl
  generalize hH3 : upd H2 D (.lst []) = H3 at I3 I4 pg pt pe w0 nfp f3 hotB
  generalize hs4 : ({ s3 with heap := pushCells (s3.heap.push { cls := .type "dict", data := .dict #[] }) scope.names } : Shared) = s4 at I4 ⊢
  have tn4 : tnE a e0 i0 0 s4.heap := T.keep _ _ _ tn3 fun b _ o z => by
    rw [← hs4]
    exact pushCells_keeps _ _ _ _ (Heap.get?_push_of_some _ z)
  have stat : ∀ {σ' : St} {H' : Hp} {s' : Shared}, Inv (X.blk s3 H3 scope ce [e0, i0]) [] σ' H' s' → (∀ b ∈ [e0, i0], H' b = none) → ∀ b ∈ [e0, i0], FpOk (X.blk s3 H3 scope ce [e0, i0]) [] H' b := fun J n b hb =>
    ⟨n b hb, (J.ok.exf b hb).1, J.ok.exfs b hb, .inl hb, fun x c z => (J.ok.exf b hb).2 x c z, fun y hy => absurd (show y ∈ ([] : List (Addr × Obj)) ++ [] from hy) (by simp)⟩
  have loop : codeAny (model X.prog X.w) X.A (.compLoop (.ListComp elt [⟨.Tuple elts kk tpos, .Call (.Name "enumerate" p) [e] [] posE, ifs, 0⟩] scope pos) 0 (.ref e0) (.ref D) ce) (compPost (model X.prog X.w) X.A X.xe none (EP X pins σ Q) (.ref D) s3.heap.objs.size) s4 := by
    refine compLoop_any (fun n s' => ∃ i H', Inv (X.blk s3 H3 scope ce [e0, i0]) [] (wipe σ (own.map (·.2))) H' s' ∧ tnE a e0 i0 i s'.heap ∧ (∀ b ∈ [e0, i0], H' b = none) ∧ W i n H') ?_ m0 ⟨0, H3, I4, tn4, nfp, w0⟩
    rintro n s5 ⟨i, H5, I5, tn5, n5, w5⟩
    rcases turn i n H5 w5 with ⟨stop, qq⟩ | ⟨go, Nx, hNx, step⟩
    · refine thnF (enum_done (X := X.blk s3 H3 scope ce [e0, i0]) (E := fun _ _ => False) hotB I5 (stat I5 n5) tn5 stop) fun r s6 ⟨hr, I6⟩ => ?_
      subst hr
      have I7 : Inv X pins σ H5 s6 := I3.call' (ch := [e0, i0]) I6.os I6.base I6.hok I6.bare fun b hb => ⟨(f3 b hb).2.2.2.1, (f3 b hb).2.1, (f3 b hb).2.2.2.2.1, (f3 b hb).2.2.2.2.2⟩
      have nC : H5 s3.heap.objs.size = none := by
        have z : H5 ce.locals = none := I6.free
        rw [cL] at z
        exact z
      obtain ⟨m, hn, _⟩ := I6.loc
      have hn2 : s6.heap.Ns ce.locals m := hn
      rw [cL] at hn2
      obtain ⟨g0, g1, g2, g3, g4, g5⟩ := I3.fpOk (Nat.le_refl _) nC
      exact ⟨m, hn2, fun h9 sb => ⟨.ref D, H5, I7.turned (t' := s6.toks) (fun b o nb z => (sb.2 b nb).trans z) g0 g1 g3 g4 g5, rfl, qq⟩⟩
    · refine thnF (enum_item (X := X.blk s3 H3 scope ce [e0, i0]) (E := fun _ _ => False) (elts := elts) (kk := kk) (tpos := tpos) I5 (stat I5 n5) tn5 go) fun r s6 ⟨u, hr, h6⟩ => ?_
      subst hr
      refine thnF h6 fun _ s7 ⟨x, H7, I7, r7, y7, tn7, n7⟩ => ?_
      have I7' := I7.pinned (stat I7 n7) (T.obj _ _ tn7)
      refine thnF (pg.run _ s7 _ H7 x u _ I7' r7 (step x H7 y7)) fun _ s8 ⟨σ8, H8, I8, hw8, q8⟩ => ?_
      refine thnF (pt.run _ s8 σ8 H8 _ I8 q8) fun b s9 ⟨H9, I9, q9⟩ => ?_
      have fin : ∀ {s' : Shared} {H' : Hp}, Inv (X.blk s3 H3 scope ce [e0, i0]) ([] ++ pinsAt [e0, i0] s7.heap) σ8 H' s' → Nx H' → ∃ m, m < n ∧ ∃ i H', Inv (X.blk s3 H3 scope ce [e0, i0]) [] (wipe σ (own.map (·.2))) H' s' ∧ tnE a e0 i0 i s'.heap ∧ (∀ b ∈ [e0, i0], H' b = none) ∧ W i m H' := fun {s' H'} J nx => by
        obtain ⟨m', hm, w'⟩ := hNx H' nx
        have pin : ∀ b ∈ [e0, i0], ∀ o, s7.heap.get? b = some o → s'.heap.get? b = some o ∧ H' b = none := fun b hb o z =>
          let y := J.pin (b, o) (List.mem_append_right _ (List.mem_append_right _ (mem_pinsAt hb z)))
          ⟨y.1, y.2.1⟩
        refine ⟨m', hm, i + 1, H', (J.unpinned (pins := [])).weak (by rw [← hw8, wipe_length]) (fun j v z => ?_), T.keep _ _ _ tn7 fun b hb o z => (pin b hb o z).1, fun b hb => ?_, w'⟩
        · rw [← hw8] at z
          exact (wipe_some z).1
        · obtain ⟨o, z, _⟩ := T.obj _ _ tn7 b hb
          exact (pin b hb o z).2
      cases b with
      | false =>
        simp only [Bool.false_eq_true, if_false] at q9 ⊢
        exact fin I9 q9
      | true =>
        simp only [if_true] at q9 ⊢
        refine thnF (pe.run _ s9 σ8 H9 _ I9 q9) fun z s10 ⟨yv, H10, I10, r10, acc, hD10, hz10, nx⟩ => ?_
        exact app_ok (X := X.blk s3 H3 scope ce [e0, i0]) I10 hD10 hz10 r10 fun s11 I11 => fin I11 nx
  exact codeAny_compStart_list loop (T.self X.A 0 _ _ _ tn4 loop)
end
end LqX
end L2


set_option Elab.async false
set_option linter.all false
set_option maxRecDepth 100000
set_option maxHeartbeats 4000000
/-! repr of data; the end of a law whose own def calls repr -/
namespace L2
namespace LqX
open PySem PySem.Spec PyProof.Rows
/-- repr(v), v a list or a tuple of data -/
def rRepr (K : PySem.W.Frag) : List V → Hp → VK → Prop := fun xs H Q => ∃ (a : Addr) (d : PyData), xs = [.ref a] ∧ Dp K H (.ref a) d ∧ d.showable = true ∧ d.hasDict = false ∧ d.depth ≤ 40 ∧ d.shown.length ≤ sizeLine ∧ Q (.str d.shown) H
theorem call_repr {X : Cx} (hg : X.A.guards = some []) (hu : X.A.units + 64 < cLine) : CallR X (.builtin "repr") (rRepr X.K) := by
  intro pins s σ H xs us Q I r h
  obtain ⟨a, d, rfl, hd, sh, nd, dp, sz, q⟩ := h
  cases r with
  | cons rx rr =>
    cases rr
    cases rx
    obtain ⟨as, rd⟩ := Dp.reads I d (.ref a) (.ref a) hd rfl
    exact repr_of_reads' rd sh (fun z => by rw [nd] at z; cases z) hg (by omega) (fun _ _ z => z) (fun h2 u tk kp => ⟨.str d.shown, H, I.kept (t' := tk) kp, ⟨u, rfl⟩, q⟩) sz
/-- what a law's def must do when it is called by itself -/
def LawRun (P : Program) (w : World) (K : PySem.W.Frag) (mg : Str → Option Value) (fa a : Addr) (s1 : Shared) (ns : List Int) : Prop :=
  ∀ (base : Heap) (H : Hp), K.In base → base.Ns mainGlobals mg → Env0 P w K mg base callerA [] s1 H → Only H → SqL K H a (ns.map V.int) →
    codeAny (model P w) callerA (.call (.ref fa) ⟨[.ref a], []⟩) (CR CX0 [] P w H s1 (fun v _ => v = .bl true) E0) s1
theorem law_end {P : Program} {w : World} {K : PySem.W.Frag} {mg mb : Str → Option Value} {fa a : Addr} {s1 : Shared} {vs : List Value} {ns : List Int} (KX : K.In s1.heap) (gs : s1.heap.Ns mainGlobals mg) (bs : s1.heap.Ns builtinsNs mb) (bb : ∀ x : Str, x ≠ "__name__" → mb x = bootBuiltins x)
    (nl : s1.heap.NoLimit) (hg : s1.gens = #[]) (ha : s1.heap.get? a = some { cls := .type "list", data := .seq vs.toArray }) (hi : IntsAre vs ns) (hl : ns.length ≤ sizeLine) (F : LawRun P w K mg fa a s1 ns) :
    codeAny (model P w) callerA (.call (.ref fa) ⟨[.ref a], []⟩) (fun r s' => r = .ok (.ret (.bool true)) ∧ OldK s1.heap s'.heap ∧ s'.os = s1.os ∧ AllBare s'.gens) s1 := by
  have rv := vals_ints hi
  have ln := hi.length
  have main : ∀ H : Hp, Only H → SqL K H a (ns.map V.int) → HOk P w H s1.heap → (∀ b, H b ≠ none → b = a ∧ K.lookup a = none) →
      codeAny (model P w) callerA (.call (.ref fa) ⟨[.ref a], []⟩) (fun r s' => r = .ok (.ret (.bool true)) ∧ OldK s1.heap s'.heap ∧ s'.os = s1.os ∧ AllBare s'.gens) s1 := by
    intro H only sq hok own
    have free : ∀ {b : Addr} {o : Obj} {es : Array DictEntry} {n : Nat}, s1.heap.get? b = some o → o.data = .dict es n → H b = none := fun {b o es n} z dd => by
      cases q : H b with
      | none => rfl
      | some u =>
        have e := (own b (by rw [q]; simp)).1
        subst e
        rw [ha] at z
        cases z
        cases (show Data.seq vs.toArray _ = Data.dict es n from dd)
    have ns_ : ∀ {b : Addr} {m : Str → Option Value}, s1.heap.Ns b m → (hidT s1.heap H).Ns b m := fun ⟨o, es, n, z, dd, r⟩ => ⟨o, es, n, hidT_get z (free z dd), dd, r⟩
    have kb : K.In (hidT s1.heap H) := fun b o z => hidT_get (KX b o z) (by
      cases q : H b with
      | none => rfl
      | some u =>
        obtain ⟨e, lk⟩ := own b (by rw [q]; simp)
        subst e
        rw [lk] at z
        cases z)
    have env : Env0 P w K mg (hidT s1.heap H) callerA [] s1 H := by
      obtain ⟨mc, h1, h2⟩ := nl
      exact ⟨rfl, ⟨kb, ns_ gs, ⟨mb, ns_ bs, bb⟩, ⟨mc, ns_ h1, h2⟩⟩, fun b o z => of_hidT z, Nat.le_of_eq (hidT_size _ _), trivial, fun b hb => absurd (show b ∈ ([] : List Addr) from hb) (by simp), hok, .of_eq hg⟩
    refine codeAny_mono (F _ H kb (ns_ gs) env only sq) fun r s' h => ?_
    cases r with
    | error e => exact False.elim h
    | ok fl =>
      cases fl with
      | next => exact False.elim h
      | brk => exact False.elim h
      | cont => exact False.elim h
      | ret u =>
        obtain ⟨v, H', os, bare, un, hok', rr, ev⟩ := h
        have ev2 : v = .bl true := ev
        subst ev2
        obtain rfl : u = Value.bool true := rr
        refine ⟨rfl, OldK.of_keep fun b o z => ?_, os, bare⟩
        cases q : H b with
        | none => exact un.keep b o z q (fun y => absurd (show b ∈ ([] : List Addr) from y) (by simp)) (by simp)
        | some u =>
          rcases only b with y | ⟨ob, xs, y⟩
          · rw [q] at y
            cases y
          · obtain ⟨e1, _⟩ := hok b _ y
            obtain ⟨e2, _⟩ := hok' b _ (un.frzs b ob _ y)
            rw [z] at e1
            cases e1
            exact e2
  cases hk : K.lookup a with
  | some o =>
    have z := KX a o hk
    rw [ha] at z
    cases z
    exact main (fun _ => none) (fun _ => .inl rfl) (.inr ⟨_, vs.toArray, _, hk, rfl, rfl, rfl, by rw [List.size_toArray, ln]; exact hl, by simpa using rv⟩) (fun b u z => by cases (show (none : Option HO) = some u from z)) fun b z => absurd rfl z
  | none =>
    refine main (fun b => if b = a then some (.frz { cls := .type "list", data := .seq vs.toArray } (.lst (ns.map V.int))) else none) (fun b => ?_) (.inl (.inr ⟨{ cls := .type "list", data := .seq vs.toArray }, if_pos rfl⟩)) (fun b u z => ?_) fun b z => ?_
    · by_cases hb : b = a
      · exact .inr ⟨_, _, if_pos hb⟩
      · exact .inl (if_neg hb)
    · by_cases hb : b = a
      · cases (if_pos hb).symm.trans z
        subst hb
        exact ⟨ha, by rw [List.length_map]; exact hl, vs, _, rv, ha⟩
      · cases (if_neg hb).symm.trans z
    · by_cases hb : b = a
      · exact ⟨hb, hk⟩
      · exact absurd (if_neg hb) z
/-- a def's body run where the law is called -/
theorem Fun.lawRun {P : Program} {w : World} {K : PySem.W.Frag} {mg : Str → Option Value} {qual x y : Str} {st : Stmt} {fa a : Addr} {fd : FuncData} {N : List Str} {s1 : Shared} {ns : List Int} (F : Fun K x qual st fa fd) (S : FnScope N [y] (defScope st)) (hr : Room 1 callerA) (hb : ∀ (s : Shared) (u : Value), BindsTo s fd ⟨[u], []⟩ [(y, u)])
    (body : ∀ (cdv : Value) (base : Heap) (H : Hp), K.In base → base.Ns mainGlobals mg → Only H → SqL K H a (ns.map V.int) →
      ∃ t, PSs (cxOf CX0 P w K mg base N qual (defScope st) fa cdv callerA [] s1 H E0).nox (defBody st) t ∧ t { nx := fun _ H' => False, rt := fun v _ => v = .bl true } (start N [.ref a]) H) : LawRun P w K mg fa a s1 ns := by
  intro base H kb nb e0 only sq
  obtain ⟨oc, od, kV, doc, pm, an, cdv, ct, osl, rfl, lk, hcd⟩ := F.ex
  have KX : K.In s1.heap := kb.keeps fun b o z => (e0.bs b o z).1
  have lim : s1.heap.NoLimit := e0.mod.nolimit.keeps fun b o z => (e0.bs b o z).1
  have kinds : ∀ z ∈ [y].zip [Value.ref a], (defScope st).names.lookup z.1 = some .local ∨ ((defScope st).names.lookup z.1 = some .cell ∧ ((cellsFrom (s1.heap.objs.size + 1) (defScope st).names []).lookup z.1).isSome = true) := by
    rintro ⟨n, v⟩ hz
    exact (S.par n (List.of_mem_zip hz).1).elim .inl fun q => .inr ⟨q, PySem.W.cellsFrom_some _ _ _ (.inl q)⟩
  refine codeAny_call_function hr.depth (KX _ _ lk) rfl S.co S.gen rfl (PySem.W.codeRec_of KX hcd) (hb s1 (.ref a) _ _ _ _ ?_)
  refine wpAny_newFunctionEnv_cells S.kind kinds fun env he s2 x => ?_
  subst he
  refine ⟨lim.keeps x.toInCall.keep, codeAny_func ?_⟩
  obtain ⟨t, ht, ok⟩ := body cdv base H kb nb only sq
  have I : Inv (cxOf CX0 P w K mg base N qual (defScope st) fa cdv callerA [] s1 H E0) [] (start N [.ref a]) H s2 := inv_start S rfl e0 rfl (.cons rfl .nil) x
  refine wpAny_mono (ht.nox.run [] s2 (start N [.ref a]) H _ I ok) (fun fl s' hs => ?_) fun e s' hs => hs
  cases fl with
  | ret u =>
    obtain ⟨v, σ', H', J, rv, q⟩ := hs
    exact ⟨v, H', J.os, J.bare, J.base, J.hok, rv, q⟩
  | next =>
    obtain ⟨σ', H', J, q⟩ := hs
    exact q.elim
  | brk => exact hs.elim fun _ z => z.elim fun _ z => z.2.elim
  | cont => exact hs.elim fun _ z => z.elim fun _ z => z.2.elim
/-- the law's row from such a run -/
theorem walk_law {l : PySem.W.OpenLaw} {n : Nat} {q : Program} {loose : List Str} {XP : (Str → Option Value) → Heap → Prop} {YP : World → Heap → Prop} {d : DefRec} (hn : l.most = some n) (hn2 : n ≤ sizeLine) (hdf : d.params.defaults = [])
    (F : ∀ (w : World) (mg : Str → Option Value) (fa : Addr) (h : Heap), YP w h → h.Ns mainGlobals mg → mg d.name = some (.ref fa) →
      ∃ K : PySem.W.Frag, K.In h ∧ ∀ (s1 : Shared) (a : Addr) (ns : List Int), ns.length ≤ n → LawRun l.prog w K mg fa a s1 ns) : PySem.W.WalkO q loose XP YP l.row.toRowW d [] (fun f vs => PySem.call f vs) := by
  refine Att.attach_call hn hdf fun w s₀ s₁ mg mb fa o pm cd doc a vs ns G Y ho hd hcd hmg hobj hints hlen hg => ?_
  obtain ⟨K, KX, hF⟩ := F w mg fa _ Y G.T.g hmg
  exact law_end KX G.T.g G.T.b G.T.builtins G.T.nolimit hg hobj hints (Nat.le_trans hlen hn2) (hF s₁ a ns hlen)
end LqX
end L2


set_option Elab.async false
set_option linter.all false
set_option maxRecDepth 100000
set_option maxHeartbeats 8000000
namespace Lq
open PySem L2 L2.LqX L2H
abbrev sLaw : Stmt := topS 14
structure LawF (P : Program) (w : World) (K : PySem.W.Frag) (mg : Str → Option Value) (base : Heap) (f0 f1 : Addr) (fd0 fd1 : FuncData) : Prop where
  begin_ : FnOk P w K mg base CX0 1 f0 fd0 ["script", "at"] (spBag K)
  right : FnOk P w K mg base CX0 7 f1 fd1 ["bag"] spR
  k0 : PySem.W.keepIn K (.ref f0) = true
  k1 : PySem.W.keepIn K (.ref f1) = true
  b0 : Binds K fd0 ["script", "at"] []
  b1 : Binds K fd1 ["bag"] []
  m0 : mg "_law_bag" = some (.ref f0)
  m1 : mg "_law_is_right" = some (.ref f1)
  mlen : mg "len" = none
  mrange : mg "range" = none
  mmax : mg "max" = none
  mmin : mg "min" = none
section
variable {P : Program} {w : World} {K : PySem.W.Frag} {mg : Str → Option Value}
theorem scLaw : FnScope ["script", "at"] ["script"] (defScope sLaw) := ⟨rfl, rfl, rfl, by decide +kernel, rfl, by decide +kernel, by decide +kernel⟩
theorem law_run {fa a f0 f1 : Addr} {fd fd0 fd1 : FuncData} {s1 : Shared} {ns : List Int} (F : Fun K "law" "law" sLaw fa fd) (L : ∀ base : Heap, K.In base → base.Ns mainGlobals mg → LawF P w K mg base f0 f1 fd0 fd1) (hb : ∀ (s : Shared) (u : Value), BindsTo s fd ⟨[u], []⟩ [("script", u)]) (hns : ns.length ≤ 63) : LawRun P w K mg fa a s1 ns := by
  refine Fun.lawRun F scLaw ⟨rfl, by decide, by decide⟩ hb fun cdv base H kb nb only sq => ?_
  have L := L base kb nb
  have r13 : Room 12 callerA := ⟨rfl, by decide, by decide⟩
  have hr := r13.deeper (PyProof.Rows.envOfC "law" (defScope sLaw) s1.heap.objs.size fa cdv)
  refine ⟨_, pss_cons (ps_for PassesOwn.never rfl (pi_range1 (by rfl) L.mrange (pa_cons (pe_callB (call_max2 rfl) (by rfl) L.mmax PyProof.Rows.boot_max (pa_cons pe_int (pa_cons (pe_callB (call_min2 rfl) (by rfl) L.mmin PyProof.Rows.boot_min (pa_cons pe_int (pa_cons (pe_callB call_len_seq (by rfl) L.mlen PySem.boot_len (pa_cons (pv 0) pa_nil)) pa_nil))) pa_nil))) pa_nil)) (pg_name (i := 1) scLaw.nd rfl (Or.inl rfl))
      (pss_one (ps_if (pt_not (pt_val (pe_call L.right (hr.mono (by decide)) (by rfl) L.m1 L.k1 L.b1 .nil pass0 (pa_cons (pe_call L.begin_ (hr.mono (by decide)) (by rfl) L.m0 L.k0 L.b0 .nil pass0 (pa_cons (pv 0) (pa_cons (pv 1) pa_nil))) pa_nil)))) (pss_one (ps_ret pe_bl)) pss_nil)))
    (pss_one (ps_ret pe_bl)), ?_⟩
  refine ⟨_, rfl, a, _, rfl, .inl sq, _, _, rfl, _, _, rfl, _, rfl, ?_, ?_, ?_⟩
  · show -(2 ^ 62) ≤ (if (if ((ns.map V.int).length : Int) < 3 then ((ns.map V.int).length : Int) else 3) > 1 then (if ((ns.map V.int).length : Int) < 3 then ((ns.map V.int).length : Int) else 3) else 1)
    split <;> split <;> omega
  · show (if (if ((ns.map V.int).length : Int) < 3 then ((ns.map V.int).length : Int) else 3) > 1 then (if ((ns.map V.int).length : Int) < 3 then ((ns.map V.int).length : Int) else 3) else 1) < 2 ^ 62
    split <;> split <;> omega
  have hm : (if (if ((ns.map V.int).length : Int) < 3 then ((ns.map V.int).length : Int) else 3) > 1 then (if ((ns.map V.int).length : Int) < 3 then ((ns.map V.int).length : Int) else 3) else 1) ≤ 3 := by
    split <;> split <;> omega
  refine for_range (fun i σ' H' => ∃ x1 : Option V, σ' = [some (.ref a), x1] ∧ Same H H') ⟨none, rfl, Same.refl _⟩ ?_ ?_
  rotate_left
  · rintro σ' H' ⟨_, _, _⟩
    rfl
  rintro i σ' H' hi ⟨x1, rfl, e1⟩
  rw [Int.zero_add]
  have hi5 : i < 3 := by
    have : i < (((if (if ((ns.map V.int).length : Int) < 3 then ((ns.map V.int).length : Int) else 3) > 1 then (if ((ns.map V.int).length : Int) < 3 then ((ns.map V.int).length : Int) else 3) else 1) : Int)).toNat := hi
    omega
  refine ⟨_, rfl, _, rfl, a, ns, i, rfl, e1.seq sq, by omega, by omega, fun p g sd np S => ?_⟩
  refine ⟨p, g, 0, sd, rfl, upd_same, S, by decide, fun H4 keep => ⟨_, rfl, _, rfl, fun c o z => keep _ _ (same_new np _ _ (e1 _ _ z)) (ne_of_none (e1 _ _ z) np)⟩⟩
end
end Lq


set_option Elab.async false
set_option linter.all false
set_option maxRecDepth 100000
set_option maxHeartbeats 0
/-! A hook: facts, defs at any address, one more Bool -/
namespace LqHk
open PySem PySem.W PySem.Calls PyProof.Rows He He5
def hookB (n : Nat) (fa : List He.Fa) (fn : List DefA) (ex : Frag → Bool) : PySem.W.Hook where
  α := Bool × He.AlD
  obs := fun s => (ex (frG s.heap.get? (asA s.heap.get? n)), obsA fa fn (frG s.heap.get? (asA s.heap.get? n)))
  val := fun _ => (true, valA fn)
  says := fun _ h => ∃ K : Frag, K.In h ∧ SaysA fa fn K ∧ ex K = true
  of := fun _ _ e => ⟨_, frG_in, congrArg Prod.snd e, congrArg Prod.fst e⟩
  keeps := fun _ _ _ ⟨K, hK, c⟩ k => ⟨K, Frag.In.keeps hK k, c⟩
def obsB (n : Nat) (fa : List He.Fa) (fn : List DefA) (ex : Frag → Bool) (g : Addr → Option Obj) : Bool × He.AlD := (ex (frG g (asA g n)), obsA fa fn (frG g (asA g n)))
theorem obsB_eq {n : Nat} {fa : List He.Fa} {fn : List DefA} {ex : Frag → Bool} {g : Addr → Option Obj} {s : Shared} (h : ∀ a, g a = s.heap.get? a) : obsB n fa fn ex g = (hookB n fa fn ex).obs s := by
  have e : g = s.heap.get? := funext h
  rw [e] <;> rfl
end LqHk
namespace Lq
open PySem L2 L2.LqX
def cF (K : PySem.W.Frag) : Addr := He.ga K "Mend"
def oB (a b : Option Bool) : Bool := decide (a = b)
def exB (K : PySem.W.Frag) : Bool := PySem.W.fnIn K (He.ma K (cF K) "__len__") && (PySem.W.fnIn K (He.ma K (cF K) "__bool__") && (PySem.W.fnIn K (He.ma K (cF K) "__contains__") && (PySem.W.fnIn K (He.ma K (cF K) "__or__") && (PySem.W.fnIn K (He.ma K (cF K) "__and__") && (PySem.W.fnIn K (He.ma K (cF K) "__ior__") && (PySem.W.fnIn K (He.ma K (cF K) "__eq__") && (PySem.W.fnIn K (He.ma K (cF K) "__str__") && (He.eqO (PySem.W.findIn K (.ref (cF K)) "__class__") (some (some (.builtin "object.__class__"))) && (He.eqO (PySem.W.specialIn K (.builtin "object.__class__") "__get__") (some (some (.builtin "getset_descriptor.__get__"))) && (oB (PySem.W.takesIn K (.builtin "object.__class__")) (some true) && (oB (PySem.W.mroIn K (cF K) (.type "object")) (some true) && (oB (PySem.W.kitOne K (.ref (cF K)) (.ref (cF K))) (some true) && (PySem.W.selfFirst K (cF K) && (He.eqO (PySem.W.findIn K (.ref (cF K)) "__ne__") (some (some (.builtin "object.__ne__"))) && (oB (PySem.W.kitOne K (.type "list") (.ref (cF K))) (some false) && (oB (PySem.W.kitOne K (.type "tuple") (.ref (cF K))) (some false)))))))))))))))))
def dF_isi : He5.DefA := ⟨fun K => He.ga K "is_integer", "is_integer", "is_integer", defArgs (topS 1), defBody (topS 1), defScope (topS 1), [], []⟩
def dF_ord : He5.DefA := ⟨fun K => He.ga K "ordered", "ordered", "ordered", defArgs (topS 4), defBody (topS 4), defScope (topS 4), [], []⟩
def dF_rtx : He5.DefA := ⟨fun K => He.ga K "rows_text", "rows_text", "rows_text", defArgs (topS 5), defBody (topS 5), defScope (topS 5), [], []⟩
def dF_bag : He5.DefA := ⟨fun K => He.ga K "_law_bag", "_law_bag", "_law_bag", defArgs (topS 7), defBody (topS 7), defScope (topS 7), [], []⟩
def dF_draw : He5.DefA := ⟨fun K => He.ga K "_law_draw", "_law_draw", "_law_draw", defArgs (topS 8), defBody (topS 8), defScope (topS 8), [], []⟩
def dF_one : He5.DefA := ⟨fun K => He.ga K "_law_one", "_law_one", "_law_one", defArgs (topS 9), defBody (topS 9), defScope (topS 9), [], []⟩
def dF_made : He5.DefA := ⟨fun K => He.ga K "_law_made", "_law_made", "_law_made", defArgs (topS 10), defBody (topS 10), defScope (topS 10), [], []⟩
def dF_drawn : He5.DefA := ⟨fun K => He.ga K "_law_drawn", "_law_drawn", "_law_drawn", defArgs (topS 11), defBody (topS 11), defScope (topS 11), [], []⟩
def dF_is : He5.DefA := ⟨fun K => He.ga K "_law_is", "_law_is", "_law_is", defArgs (topS 12), defBody (topS 12), defScope (topS 12), [], []⟩
def dF_right : He5.DefA := ⟨fun K => He.ga K "_law_is_right", "_law_is_right", "_law_is_right", defArgs (topS 13), defBody (topS 13), defScope (topS 13), [], []⟩
def dF_law : He5.DefA := ⟨fun K => He.ga K "law", "law", "law", defArgs (topS 14), defBody (topS 14), defScope (topS 14), [], []⟩
def dM_mi : He5.DefA := ⟨fun K => He.ma K (He.ga K "Mend") "__init__", "__init__", "Mend.__init__", defArgs sInit, defBody sInit, defScope sInit, [], []⟩
def dM_ml : He5.DefA := ⟨fun K => He.ma K (He.ga K "Mend") "__len__", "__len__", "Mend.__len__", defArgs sLen, defBody sLen, defScope sLen, [], []⟩
def dM_mb : He5.DefA := ⟨fun K => He.ma K (He.ga K "Mend") "__bool__", "__bool__", "Mend.__bool__", defArgs sBool, defBody sBool, defScope sBool, [], []⟩
def dM_mn : He5.DefA := ⟨fun K => He.ma K (He.ga K "Mend") "__contains__", "__contains__", "Mend.__contains__", defArgs sIn, defBody sIn, defScope sIn, [], []⟩
def dM_mo : He5.DefA := ⟨fun K => He.ma K (He.ga K "Mend") "__or__", "__or__", "Mend.__or__", defArgs sOr, defBody sOr, defScope sOr, [], []⟩
def dM_ma : He5.DefA := ⟨fun K => He.ma K (He.ga K "Mend") "__and__", "__and__", "Mend.__and__", defArgs sAnd, defBody sAnd, defScope sAnd, [], []⟩
def dM_mr : He5.DefA := ⟨fun K => He.ma K (He.ga K "Mend") "__ior__", "__ior__", "Mend.__ior__", defArgs sIor, defBody sIor, defScope sIor, [], []⟩
def dM_me : He5.DefA := ⟨fun K => He.ma K (He.ga K "Mend") "__eq__", "__eq__", "Mend.__eq__", defArgs sEq, defBody sEq, defScope sEq, [], []⟩
def dM_ms : He5.DefA := ⟨fun K => He.ma K (He.ga K "Mend") "__str__", "__str__", "Mend.__str__", defArgs sStr, defBody sStr, defScope sStr, [], []⟩
def fn : List He5.DefA := [dF_isi, dF_ord, dF_rtx, dF_bag, dF_draw, dF_one, dF_made, dF_drawn, dF_is, dF_right, dF_law, dM_mi, dM_ml, dM_mb, dM_mn, dM_mo, dM_ma, dM_mr, dM_me, dM_ms]
def fa : List He.Fa := [.glo "is_integer", .glo "ordered", .glo "rows_text", .glo "_law_bag", .glo "_law_draw", .glo "_law_one", .glo "_law_made", .glo "_law_drawn", .glo "_law_is", .glo "_law_is_right", .glo "law", .glo "Mend", .free "isinstance", .free "int", .free "bool", .free "len", .free "abs", .free "range", .free "max", .free "min", .free "list", .free "tuple", .free "str", .free "sorted", .free "set", .cls "Mend", .noat "Mend" "rows", .meth "Mend" "__len__", .meth "Mend" "__bool__", .meth "Mend" "__contains__", .meth "Mend" "__or__", .meth "Mend" "__and__", .meth "Mend" "__ior__", .meth "Mend" "__eq__", .meth "Mend" "__str__", .mkr "Mend"]
abbrev R : PySem.W.OpenRow := PySem.W.OpenLaw.row PySem.Challenge.rw_latequestions_k51_mends_as_sets
abbrev hk : PySem.W.Hook := LqHk.hookB 6 fa fn exB
def ob (s : PySem.W.SharedT) : Bool × He.AlD := LqHk.obsB 6 fa fn exB (HandSHeadRun.getT s)
theorem ob_eq (s : PySem.W.SharedT) : ob s = hk.obs s.abs := LqHk.obsB_eq (HandSHeadRun.getT_eq s)
def loose : List Str := ([("is_integer" : Str), ("Mend" : Str), ("ordered" : Str), ("rows_text" : Str), ("_law_bag" : Str), ("_law_draw" : Str), ("_law_one" : Str), ("_law_made" : Str), ("_law_drawn" : Str), ("_law_is" : Str), ("_law_is_right" : Str)] : List Str)
theorem run (w : World) : HandSHeadRun.RunEq R (PySem.W.view R.prog [14]) hk ob 8000 loose w := by
  intro os
  kernel_rfl
end Lq


set_option Elab.async false
set_option linter.all false
set_option maxRecDepth 100000
set_option maxHeartbeats 8000000
namespace Lq
open PySem L2 L2.LqX
theorem fun_of {K : PySem.W.Frag} {x qual : Str} {st : Stmt} {f : Addr} {fd : FuncData} (h : FunD K x qual (defArgs st) (defBody st) (defScope st) [] [] f fd) : Fun K x qual st f fd := by
  obtain ⟨oc, od, dV, kV, doc, pm, an, cdv, ct, osl, e, lk, hcd, hd, _⟩ := h.ex
  have e0 : dV = .none := by
    rcases hd with ⟨_, z⟩ | ⟨z, _⟩
    · exact z
    · exact absurd rfl z
  subst e0
  exact ⟨⟨oc, od, kV, doc, pm, an, cdv, ct, osl, e, lk, hcd⟩, h.kp⟩
theorem oB_ok {a b : Option Bool} (h : oB a b = true) : a = b := of_decide_eq_true h
section
variable {P : Program} {w : World} {K : PySem.W.Frag} {mg : Str → Option Value} {h base : Heap}
theorem facts {fA a : Addr} {s1 : Shared} {ns : List Int} (KX : K.In h) (G : h.Ns mainGlobals mg) (hfa : mg "law" = some (.ref fA)) (c : He5.SaysA fa fn K) (hx : exB K = true) (hl : ns.length ≤ 63) : LawRun P w K mg fA a s1 ns := by
  obtain ⟨fd_isi, D_isi⟩ := c.def_ 0 (d := dF_isi) rfl
  have F_isi : Fun K "is_integer" "is_integer" sIsI (He.ga K "is_integer") fd_isi := fun_of D_isi
  have g_isi : mg "is_integer" = some (.ref (He.ga K "is_integer")) := He.glo_ok KX G (c.fact 0 (f := .glo "is_integer") rfl)
  have b_isi : Binds K fd_isi ["thing"] [] := F_isi.binds fun _ _ _ _ _ _ us hl => match us, hl with | [_], _ => rfl
  obtain ⟨fd_ord, D_ord⟩ := c.def_ 1 (d := dF_ord) rfl
  have F_ord : Fun K "ordered" "ordered" sOrdered (He.ga K "ordered") fd_ord := fun_of D_ord
  have g_ord : mg "ordered" = some (.ref (He.ga K "ordered")) := He.glo_ok KX G (c.fact 1 (f := .glo "ordered") rfl)
  have b_ord : Binds K fd_ord ["rows"] [] := F_ord.binds fun _ _ _ _ _ _ us hl => match us, hl with | [_], _ => rfl
  obtain ⟨fd_rtx, D_rtx⟩ := c.def_ 2 (d := dF_rtx) rfl
  have F_rtx : Fun K "rows_text" "rows_text" sRowsTx (He.ga K "rows_text") fd_rtx := fun_of D_rtx
  have g_rtx : mg "rows_text" = some (.ref (He.ga K "rows_text")) := He.glo_ok KX G (c.fact 2 (f := .glo "rows_text") rfl)
  have b_rtx : Binds K fd_rtx ["rows"] [] := F_rtx.binds fun _ _ _ _ _ _ us hl => match us, hl with | [_], _ => rfl
  obtain ⟨fd_bag, D_bag⟩ := c.def_ 3 (d := dF_bag) rfl
  have F_bag : Fun K "_law_bag" "_law_bag" sBag (He.ga K "_law_bag") fd_bag := fun_of D_bag
  have g_bag : mg "_law_bag" = some (.ref (He.ga K "_law_bag")) := He.glo_ok KX G (c.fact 3 (f := .glo "_law_bag") rfl)
  have b_bag : Binds K fd_bag ["script", "at"] [] := F_bag.binds fun _ _ _ _ _ _ us hl => match us, hl with | [_, _], _ => rfl
  obtain ⟨fd_draw, D_draw⟩ := c.def_ 4 (d := dF_draw) rfl
  have F_draw : Fun K "_law_draw" "_law_draw" sDraw (He.ga K "_law_draw") fd_draw := fun_of D_draw
  have g_draw : mg "_law_draw" = some (.ref (He.ga K "_law_draw")) := He.glo_ok KX G (c.fact 4 (f := .glo "_law_draw") rfl)
  have b_draw : Binds K fd_draw ["bag", "many"] [] := F_draw.binds fun _ _ _ _ _ _ us hl => match us, hl with | [_, _], _ => rfl
  obtain ⟨fd_one, D_one⟩ := c.def_ 5 (d := dF_one) rfl
  have F_one : Fun K "_law_one" "_law_one" sOne (He.ga K "_law_one") fd_one := fun_of D_one
  have g_one : mg "_law_one" = some (.ref (He.ga K "_law_one")) := He.glo_ok KX G (c.fact 5 (f := .glo "_law_one") rfl)
  have b_one : Binds K fd_one ["bag", "some"] [] := F_one.binds fun _ _ _ _ _ _ us hl => match us, hl with | [_, _], _ => rfl
  obtain ⟨fd_made, D_made⟩ := c.def_ 6 (d := dF_made) rfl
  have F_made : Fun K "_law_made" "_law_made" sMade (He.ga K "_law_made") fd_made := fun_of D_made
  have g_made : mg "_law_made" = some (.ref (He.ga K "_law_made")) := He.glo_ok KX G (c.fact 6 (f := .glo "_law_made") rfl)
  have b_made : Binds K fd_made ["some"] [] := F_made.binds fun _ _ _ _ _ _ us hl => match us, hl with | [_], _ => rfl
  obtain ⟨fd_drawn, D_drawn⟩ := c.def_ 7 (d := dF_drawn) rfl
  have F_drawn : Fun K "_law_drawn" "_law_drawn" sDrawn (He.ga K "_law_drawn") fd_drawn := fun_of D_drawn
  have g_drawn : mg "_law_drawn" = some (.ref (He.ga K "_law_drawn")) := He.glo_ok KX G (c.fact 7 (f := .glo "_law_drawn") rfl)
  have b_drawn : Binds K fd_drawn ["bag"] [] := F_drawn.binds fun _ _ _ _ _ _ us hl => match us, hl with | [_], _ => rfl
  obtain ⟨fd_is, D_is⟩ := c.def_ 8 (d := dF_is) rfl
  have F_is : Fun K "_law_is" "_law_is" sIs (He.ga K "_law_is") fd_is := fun_of D_is
  have g_is : mg "_law_is" = some (.ref (He.ga K "_law_is")) := He.glo_ok KX G (c.fact 8 (f := .glo "_law_is") rfl)
  have b_is : Binds K fd_is ["mend", "due"] [] := F_is.binds fun _ _ _ _ _ _ us hl => match us, hl with | [_, _], _ => rfl
  obtain ⟨fd_right, D_right⟩ := c.def_ 9 (d := dF_right) rfl
  have F_right : Fun K "_law_is_right" "_law_is_right" sR (He.ga K "_law_is_right") fd_right := fun_of D_right
  have g_right : mg "_law_is_right" = some (.ref (He.ga K "_law_is_right")) := He.glo_ok KX G (c.fact 9 (f := .glo "_law_is_right") rfl)
  have b_right : Binds K fd_right ["bag"] [] := F_right.binds fun _ _ _ _ _ _ us hl => match us, hl with | [_], _ => rfl
  obtain ⟨fd_law, D_law⟩ := c.def_ 10 (d := dF_law) rfl
  have F_law : Fun K "law" "law" sLaw (He.ga K "law") fd_law := fun_of D_law
  have g_law : mg "law" = some (.ref (He.ga K "law")) := He.glo_ok KX G (c.fact 10 (f := .glo "law") rfl)
  have b_law : Binds K fd_law ["script"] [] := F_law.binds fun _ _ _ _ _ _ us hl => match us, hl with | [_], _ => rfl
  obtain ⟨fd_mi, D_mi⟩ := c.def_ 11 (d := dM_mi) rfl
  have F_mi : Fun K "__init__" "Mend.__init__" sInit (He.ma K (cF K) "__init__") fd_mi := fun_of D_mi
  obtain ⟨fd_ml, D_ml⟩ := c.def_ 12 (d := dM_ml) rfl
  have F_ml : Fun K "__len__" "Mend.__len__" sLen (He.ma K (cF K) "__len__") fd_ml := fun_of D_ml
  have b_ml : Binds K fd_ml ["self"] [] := F_ml.binds fun _ _ _ _ _ _ us hl => match us, hl with | [_], _ => rfl
  obtain ⟨fd_mb, D_mb⟩ := c.def_ 13 (d := dM_mb) rfl
  have F_mb : Fun K "__bool__" "Mend.__bool__" sBool (He.ma K (cF K) "__bool__") fd_mb := fun_of D_mb
  have b_mb : Binds K fd_mb ["self"] [] := F_mb.binds fun _ _ _ _ _ _ us hl => match us, hl with | [_], _ => rfl
  obtain ⟨fd_mn, D_mn⟩ := c.def_ 14 (d := dM_mn) rfl
  have F_mn : Fun K "__contains__" "Mend.__contains__" sIn (He.ma K (cF K) "__contains__") fd_mn := fun_of D_mn
  have b_mn : Binds K fd_mn ["self", "x"] [] := F_mn.binds fun _ _ _ _ _ _ us hl => match us, hl with | [_, _], _ => rfl
  obtain ⟨fd_mo, D_mo⟩ := c.def_ 15 (d := dM_mo) rfl
  have F_mo : Fun K "__or__" "Mend.__or__" sOr (He.ma K (cF K) "__or__") fd_mo := fun_of D_mo
  have b_mo : Binds K fd_mo ["self", "other"] [] := F_mo.binds fun _ _ _ _ _ _ us hl => match us, hl with | [_, _], _ => rfl
  obtain ⟨fd_ma, D_ma⟩ := c.def_ 16 (d := dM_ma) rfl
  have F_ma : Fun K "__and__" "Mend.__and__" sAnd (He.ma K (cF K) "__and__") fd_ma := fun_of D_ma
  have b_ma : Binds K fd_ma ["self", "other"] [] := F_ma.binds fun _ _ _ _ _ _ us hl => match us, hl with | [_, _], _ => rfl
  obtain ⟨fd_mr, D_mr⟩ := c.def_ 17 (d := dM_mr) rfl
  have F_mr : Fun K "__ior__" "Mend.__ior__" sIor (He.ma K (cF K) "__ior__") fd_mr := fun_of D_mr
  have b_mr : Binds K fd_mr ["self", "other"] [] := F_mr.binds fun _ _ _ _ _ _ us hl => match us, hl with | [_, _], _ => rfl
  obtain ⟨fd_me, D_me⟩ := c.def_ 18 (d := dM_me) rfl
  have F_me : Fun K "__eq__" "Mend.__eq__" sEq (He.ma K (cF K) "__eq__") fd_me := fun_of D_me
  have b_me : Binds K fd_me ["self", "other"] [] := F_me.binds fun _ _ _ _ _ _ us hl => match us, hl with | [_, _], _ => rfl
  obtain ⟨fd_ms, D_ms⟩ := c.def_ 19 (d := dM_ms) rfl
  have F_ms : Fun K "__str__" "Mend.__str__" sStr (He.ma K (cF K) "__str__") fd_ms := fun_of D_ms
  have b_ms : Binds K fd_ms ["self"] [] := F_ms.binds fun _ _ _ _ _ _ us hl => match us, hl with | [_], _ => rfl
  have gMend : mg "Mend" = some (.ref (He.ga K "Mend")) := He.glo_ok KX G (c.fact 11 (f := .glo "Mend") rfl)
  have u_isinstance : mg "isinstance" = none := He.free_ok KX G (c.fact 12 (f := .free "isinstance") rfl)
  have u_int : mg "int" = none := He.free_ok KX G (c.fact 13 (f := .free "int") rfl)
  have u_bool : mg "bool" = none := He.free_ok KX G (c.fact 14 (f := .free "bool") rfl)
  have u_len : mg "len" = none := He.free_ok KX G (c.fact 15 (f := .free "len") rfl)
  have u_abs : mg "abs" = none := He.free_ok KX G (c.fact 16 (f := .free "abs") rfl)
  have u_range : mg "range" = none := He.free_ok KX G (c.fact 17 (f := .free "range") rfl)
  have u_max : mg "max" = none := He.free_ok KX G (c.fact 18 (f := .free "max") rfl)
  have u_min : mg "min" = none := He.free_ok KX G (c.fact 19 (f := .free "min") rfl)
  have u_list : mg "list" = none := He.free_ok KX G (c.fact 20 (f := .free "list") rfl)
  have u_tuple : mg "tuple" = none := He.free_ok KX G (c.fact 21 (f := .free "tuple") rfl)
  have u_str : mg "str" = none := He.free_ok KX G (c.fact 22 (f := .free "str") rfl)
  have u_sorted : mg "sorted" = none := He.free_ok KX G (c.fact 23 (f := .free "sorted") rfl)
  have u_set : mg "set" = none := He.free_ok KX G (c.fact 24 (f := .free "set") rfl)
  have cl_Mend := He.cls_ok (c.fact 25 (f := .cls "Mend") rfl)
  have na_Mend_rows := He.noat_ok (c.fact 26 (f := .noat "Mend" "rows") rfl)
  have m_Mend_len := He.meth_ok (c.fact 27 (f := .meth "Mend" "__len__") rfl)
  have m_Mend_bool := He.meth_ok (c.fact 28 (f := .meth "Mend" "__bool__") rfl)
  have m_Mend_contains := He.meth_ok (c.fact 29 (f := .meth "Mend" "__contains__") rfl)
  have m_Mend_or := He.meth_ok (c.fact 30 (f := .meth "Mend" "__or__") rfl)
  have m_Mend_and := He.meth_ok (c.fact 31 (f := .meth "Mend" "__and__") rfl)
  have m_Mend_ior := He.meth_ok (c.fact 32 (f := .meth "Mend" "__ior__") rfl)
  have m_Mend_eq := He.meth_ok (c.fact 33 (f := .meth "Mend" "__eq__") rfl)
  have m_Mend_str := He.meth_ok (c.fact 34 (f := .meth "Mend" "__str__") rfl)
  have mk_Mend := He.mkr_ok (c.fact 35 (f := .mkr "Mend") rfl)
  obtain ⟨h_ml, hx⟩ := He.ba hx
  obtain ⟨h_mb, hx⟩ := He.ba hx
  obtain ⟨h_mn, hx⟩ := He.ba hx
  obtain ⟨h_mo, hx⟩ := He.ba hx
  obtain ⟨h_ma, hx⟩ := He.ba hx
  obtain ⟨h_mr, hx⟩ := He.ba hx
  obtain ⟨h_me, hx⟩ := He.ba hx
  obtain ⟨h_ms, hx⟩ := He.ba hx
  obtain ⟨h_ca, hx⟩ := He.ba hx
  obtain ⟨h_cg, hx⟩ := He.ba hx
  obtain ⟨h_ct, hx⟩ := He.ba hx
  obtain ⟨h_cm, hx⟩ := He.ba hx
  obtain ⟨h_ck, hx⟩ := He.ba hx
  obtain ⟨h_sf, hx⟩ := He.ba hx
  obtain ⟨h_ne, hx⟩ := He.ba hx
  obtain ⟨h_kl, h_kt⟩ := He.ba hx
  have e := hfa.symm.trans g_law
  cases e
  have T : MdF K mg (cF K) := ⟨gMend, cl_Mend, na_Mend_rows, He.eqO_ok h_ca, He.eqO_ok h_cg, oB_ok h_ct, oB_ok h_cm, oB_ok h_ck, h_sf⟩
  have oLn : OwnM K (cF K) "__len__" (He.ma K (cF K) "__len__") := ⟨m_Mend_len.at_, m_Mend_len.fn, h_ml⟩
  have oBo : OwnM K (cF K) "__bool__" (He.ma K (cF K) "__bool__") := ⟨m_Mend_bool.at_, m_Mend_bool.fn, h_mb⟩
  have oIn : OwnM K (cF K) "__contains__" (He.ma K (cF K) "__contains__") := ⟨m_Mend_contains.at_, m_Mend_contains.fn, h_mn⟩
  have oSt : OwnM K (cF K) "__str__" (He.ma K (cF K) "__str__") := ⟨m_Mend_str.at_, m_Mend_str.fn, h_ms⟩
  have oEq : OwnM K (cF K) "__eq__" (He.ma K (cF K) "__eq__") := ⟨m_Mend_eq.at_, m_Mend_eq.fn, h_me⟩
  have oOr : OwnM K (cF K) (PySem.dunder Operator.BitOr.info.2) (He.ma K (cF K) "__or__") := ⟨m_Mend_or.at_, m_Mend_or.fn, h_mo⟩
  have oAn : OwnM K (cF K) (PySem.dunder Operator.BitAnd.info.2) (He.ma K (cF K) "__and__") := ⟨m_Mend_and.at_, m_Mend_and.fn, h_ma⟩
  have oIo : OwnM K (cF K) (PySem.dunderI Operator.BitOr.info.2) (He.ma K (cF K) "__ior__") := ⟨m_Mend_ior.at_, m_Mend_ior.fn, h_mr⟩
  refine law_run (f0 := He.ga K "_law_bag") (f1 := He.ga K "_law_is_right") (fd0 := fd_bag) (fd1 := fd_right) F_law (fun base kb nb => ?_) ?_ hl
  · have raw : ∀ {k : Nat} {f : Addr} {fd : FuncData} {ps : List Str} {sp : Sp}, FnOk P w K mg base CX0 k f fd ps sp → Binds K fd ps [] → FnR P w K mg base CX0 k f sp := fun G b => (G.raw b .nil).imp fun vs H Q E h => by rw [List.append_nil]; exact h
    have GI := ok_isI (P := P) (w := w) (mg := mg) (base := base) F_isi u_isinstance u_int u_bool
    have GO := ok_ord (P := P) (w := w) (base := base) F_ord u_tuple u_sorted u_set
    have GT := ok_rtx (P := P) (w := w) (base := base) F_rtx u_str
    have GM := ok_mk F_mi T GO b_ord F_ord.kp g_ord
    have ML := raw (ok_len (P := P) (w := w) (base := base) F_ml T u_len) b_ml
    have MB := raw (ok_bool (P := P) (w := w) (base := base) F_mb T u_bool) b_mb
    have MN := raw (ok_in F_mn T GI b_isi F_isi.kp g_isi) b_mn
    have MO := raw (ok_or F_mo T mk_Mend GM) b_mo
    have MA := raw (ok_and F_ma T mk_Mend GM) b_ma
    have MR := raw (ok_ior F_mr T GO b_ord F_ord.kp g_ord) b_mr
    have ME := raw (ok_eq (P := P) (w := w) (base := base) F_me T u_isinstance) b_me
    have MS := raw (ok_str F_ms T GT b_rtx F_rtx.kp g_rtx) b_ms
    have GD := ok_draw (P := P) (w := w) (base := base) F_draw u_int
    have G1 := ok_one F_one GD b_draw F_draw.kp g_draw u_len
    have GW := ok_drawn F_drawn GD b_draw F_draw.kp g_draw G1 b_one F_one.kp g_one u_range
    have GMd := ok_made F_made T mk_Mend GM u_len
    have GIs := ok_is F_is (⟨T, oLn, ML, oBo, MB, oIn, MN, oSt, MS, u_isinstance, u_tuple, u_list, u_len, u_bool, u_str⟩ : IF P w K mg base (cF K) (He.ma K (cF K) "__len__") (He.ma K (cF K) "__bool__") (He.ma K (cF K) "__contains__") (He.ma K (cF K) "__str__"))
    have Rt := ok_right F_right (⟨T, GW, b_drawn, F_drawn.kp, g_drawn, GD, b_draw, F_draw.kp, g_draw, GMd, b_made, F_made.kp, g_made, GIs, b_is, F_is.kp, g_is, mk_Mend, GM, oEq, ME, He.eqO_ok h_ne, oOr, MO, oAn, MA, oIo, MR, oB_ok h_kl, oB_ok h_kt, u_len, u_list, u_sorted, u_set⟩ : RF P w K mg base (cF K) (He.ga K "_law_drawn") (He.ga K "_law_draw") (He.ga K "_law_made") (He.ga K "_law_is") (He.ma K (cF K) "__init__") (He.ma K (cF K) "__eq__") (He.ma K (cF K) "__or__") (He.ma K (cF K) "__and__") (He.ma K (cF K) "__ior__") fd_drawn fd_draw fd_made fd_is)
    exact ⟨ok_bag F_bag u_int u_len u_abs, Rt, F_bag.kp, F_right.kp, b_bag, b_right, g_bag, g_right, u_len, u_range, u_max, u_min⟩
  · intro s u
    have D : FunD K "law" "law" (defArgs sLaw) (defBody sLaw) (defScope sLaw) [] [] (He.ga K "law") fd_law := D_law
    exact FunD.bindsA (ps := ["script"]) D (fun _ _ _ _ _ _ us hl => match us, hl with | [_], _ => rfl) s [u] rfl
end
end Lq
open PySem PySem.W PySem.Calls PyProof.Rows
theorem PySem.Challenge.cw_latequestions_k51_mends_as_sets_holds : PySem.Challenge.rw_latequestions_k51_mends_as_sets.Holds := by
  w_on; o_law
  refine HandSHeadRun.head_any (r := OpenLaw.row PySem.Challenge.rw_latequestions_k51_mends_as_sets) (q := view (OpenLaw.row PySem.Challenge.rw_latequestions_k51_mends_as_sets).prog [14]) (H := Lq.hk) (ob := Lq.ob) (M := 8000) (loose := Lq.loose) (d := HandSHeadRun.topDef (OpenLaw.row PySem.Challenge.rw_latequestions_k51_mends_as_sets).prog 14) (kwd := []) Lq.ob_eq
    (by kernel_rfl) (fun s => by kernel_rfl) Lq.run (by kernel_rfl) (by kernel_rfl) (by kernel_rfl) (by rfl) (by first | assumption | decide +kernel) (by decide +kernel) ⟨rfl, rfl, rfl, rfl, rfl, by decide +kernel⟩ ?hw ?hc
  case hw => w_witness2
  case hc =>
    refine L2.LqX.walk_law (l := PySem.Challenge.rw_latequestions_k51_mends_as_sets) (n := 63) rfl (by decide) (by kernel_rfl) ?F
    intro w mg fA h Y G hmg0
    obtain ⟨K, KX, c, hx⟩ := Y
    have hmg : mg ("law" : PySem.Str) = some (.ref fA) := by
      have e : (HandSHeadRun.topDef (OpenLaw.row PySem.Challenge.rw_latequestions_k51_mends_as_sets).prog 14).name = ("law" : PySem.Str) := by kernel_rfl
      rw [← e]
      exact hmg0
    exact ⟨K, KX, fun s1 a ns hl => Lq.facts KX G hmg c hx hl⟩


