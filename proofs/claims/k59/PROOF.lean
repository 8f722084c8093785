import PyProof.Rows.All
import Wide.All
import OpenK.AllK
import Wide.FinOn
import PyProof.ReprRoads
import PyProof.ReprReads
import KE.KExcIs
import HandS.Base
import HandS.Call
import HandS.List
import HandS.Ends
import HandS.Exc
import HandS.ExcInit
import HandS.IsInst
import HandS.ExcIs
import HandS.ExcField
import HandS.Words
import HandS.HeadHook2
import HandS.HeadEnd
import HandS.Head2
import HandS.Head0
import HandS.Head1
import HandS.ForMost
import HandS.Wide
import HandS.Walk
import HandS.Iter
import HandS.Comp
import KE.KStateDown
import PySem.Challenge.RW_stepsunread_k59_errors_with_any_value
set_option Elab.async false
set_option linter.all false
set_option maxRecDepth 100000
set_option maxHeartbeats 0
/-! general pieces: calls where no repr is under way, repr of data, exceptions held as values -/
namespace V9
open PySem L2
open PySem.Spec
open PyProof.Rows

/-! ### a def's promise where nothing guards -/
structure FnG (P : Program) (w : World) (K : PySem.W.Frag) (mg : Str → Option Value)
    (base : Heap) (CX : CXT) (k : Nat) (f : Addr) (fd : FuncData) (ps : List Str) (sp : Sp) : Prop where
  len : ∀ vs H Q E, sp vs H Q E → vs.length = ps.length
  run : ∀ (A : Around) (outer : List Env) (s : Shared) (H : Hp) (args : Args)
    (us : List Value) (vs : List V) (Q : VK) (E : XK), A.guards = some [] →
    Room k A → Env0 P w K mg base A outer s H → BindsTo s fd args (ps.zip us) →
    Vals vs us → sp vs H Q E →
    codeAny (model P w) A (.call (.ref f) args) (CR CX outer P w H s Q E) s

theorem FnG.of {P : Program} {w : World} {K : PySem.W.Frag} {mg : Str → Option Value}
    {base : Heap} {CX : CXT} {k : Nat} {f : Addr} {fd : FuncData} {ps : List Str} {sp : Sp}
    (F : FnOk P w K mg base CX k f fd ps sp) : FnG P w K mg base CX k f fd ps sp :=
  ⟨F.len, fun A o s H a us vs Q E _ => F.run A o s H a us vs Q E⟩

section
variable {P : Program} {w : World} {K : PySem.W.Frag} {mg : Str → Option Value} {base : Heap}
/-- the rule for such a def, by its body -/
theorem fn_g {CX : CXT} {k : Nat} {f : Addr} {name qual : Str} {params : Arguments}
    {body : List Stmt} {scope : Scope} {dV kV doc pm cdv ct oc : Value} {an od : Option Addr}
    {osl : Array (Option Value)} {N ps : List Str} {sp : Sp}
    (lk : K.lookup f = some ⟨oc, od, .func (PySem.W.fnOf name qual params body scope dV kV doc pm an cdv ct), osl⟩)
    (hcd : PySem.W.codeIn K cdv qual = true) (S : FnScope N ps scope)
    (len : ∀ vs H Q E, sp vs H Q E → vs.length = ps.length)
    (hbody : ∀ (A : Around) (outer : List Env) (s : Shared) (H : Hp) (vs : List V) (Q : VK) (E : XK),
      A.guards = some [] → Room k (A.deeper (envOfC qual scope s.heap.objs.size f cdv)) → sp vs H Q E →
      ∃ t, PSs (cxOf CX P w K mg base N qual scope f cdv A outer s H E) body t ∧
        t { nx := fun _ H' => Q .non H', rt := Q } (start N vs) H) :
    FnG P w K mg base CX (k + 1) f (PySem.W.fnOf name qual params body scope dV kV doc pm an cdv ct) ps sp := by
  refine ⟨len, fun A outer s H args us vs Q E hG hr e0 hb r hsp => ?_⟩
  have hl := len _ _ _ _ hsp
  have keep : ∀ b o, base.get? b = some o → s.heap.get? b = some o := fun b o e => (e0.bs b o e).1
  have KX : K.In s.heap := e0.mod.kin.keeps keep
  have lim : s.heap.NoLimit := e0.mod.nolimit.keeps keep
  refine codeAny_call_function hr.depth (KX _ _ lk) rfl S.co S.gen rfl
    (PySem.W.codeRec_of KX hcd) (hb _ _ _ _ ?_)
  refine wpAny_newFunctionEnv_cells S.kind (fun ⟨n, v⟩ hy => ?_) fun env he s1 x => ?_
  · rcases S.par n (List.of_mem_zip hy).1 with q | q
    · exact .inl q
    · exact .inr ⟨q, PySem.W.cellsFrom_some _ _ _ (.inl q)⟩
  subst he
  refine ⟨lim.keeps x.toInCall.keep, codeAny_func ?_⟩
  obtain ⟨t, ht, hq⟩ := hbody A outer s H vs Q E hG (hr.deeper _) hsp
  have I := inv_start (CX := CX) (E := E) S hr.hd e0 hl r x
  refine wpAny_mono (ht.run [] s1 (start N vs) H _ I hq) (fun fl s' hs => ?_) fun e s' hs => hs
  cases fl with
  | ret u =>
    obtain ⟨v, σ', H', J, rv, q⟩ := hs
    exact ⟨v, H', J.os, J.bare, J.base, J.hok, rv, q⟩
  | next =>
    obtain ⟨σ', H', J, q⟩ := hs
    exact ⟨V.non, H', J.os, J.bare, J.base, J.hok, rfl, q⟩
  | brk => obtain ⟨_, _, _, q⟩ := hs; exact q.elim
  | cont => obtain ⟨_, _, _, q⟩ := hs; exact q.elim

/-- .. for a def of the text out of which no exception comes -/
theorem okG {x qual : Str} {st : Stmt} {f : Addr} {fd : FuncData} {N ps : List Str} {k : Nat} {sp : Sp}
    (F : Fun K x qual st f fd) (S : FnScope N ps (defScope st))
    (len : ∀ vs H Q E, sp vs H Q E → vs.length = ps.length)
    (hbody : ∀ (cdv : Value) (A : Around) (outer : List Env) (s : Shared) (H : Hp) (vs : List V) (Q : VK) (E : XK),
      A.guards = some [] → Room k (A.deeper (envOfC qual (defScope st) s.heap.objs.size f cdv)) → sp vs H Q E →
      ∃ t, PSs (cxOf CX0 P w K mg base N qual (defScope st) f cdv A outer s H E).nox (defBody st) t ∧
        t { nx := fun _ H' => Q .non H', rt := Q } (start N vs) H) :
    FnG P w K mg base CX0 (k + 1) f fd ps sp := by
  obtain ⟨oc, od, kV, doc, pm, an, cdv, ct, osl, rfl, lk, hcd⟩ := F.ex
  refine fn_g lk hcd S len fun A outer s H vs Q E hG hr hsp => ?_
  obtain ⟨t, h, q⟩ := hbody cdv A outer s H vs Q E hG hr hsp
  exact ⟨t, h.nox, q⟩
end

section
variable {X : Cx} {CX : CXT} {k : Nat} {f : Addr} {fd : FuncData} {ps : List Str} {sp : Sp}
  {dvs : List V} {ds : List Value} {E : XK} {x : Str} {p pos : Pos} {e : Expr} {es : List Expr} {t : TA}
theorem run_fnG {pins : List (Addr × Obj)} {σ : L2.St} {H : Hp} {s : Shared} {Q : VK} {us : List Value}
    {vs : List V} (hG : X.A.guards = some []) (F : FnG X.prog X.w X.K X.mg X.base CX k f fd ps sp)
    (hr : Room k X.A) (hb : Binds X.K fd ps ds) (hd : Vals dvs ds) (hx : Passes CX X E)
    (I : Inv X pins σ H s) (r : Vals vs us) (h : sp (vs ++ dvs) H Q E) :
    wpAny (model X.prog X.w) X.A (call (.ref f) us) (EP X pins σ Q) X.xe s := by
  have r2 := r.append hd
  have hl : (us ++ ds).length = ps.length := r2.length.symm.trans (F.len _ _ _ _ h)
  refine wpAny_call (codeAny_mono (F.run X.A X.stack s H ⟨us, []⟩ _ _ Q E hG hr I.env0
    (hb s us I.kIn hl) r2 h) fun r s' hq => ?_)
  match r, hq with
  | .error e, hq => exact hx pins σ H s e s' I hq
  | .ok (.ret u), hq => exact I.after hq
  | .ok .next, hq => exact hq.elim
  | .ok .brk, hq => exact hq.elim
  | .ok .cont, hq => exact hq.elim
/-- f(e, ..) of such a def -/
theorem pe_callG (hG : X.A.guards = some []) (F : FnG X.prog X.w X.K X.mg X.base CX k f fd ps sp)
    (hr : Room k X.A) (hg : Gl X x) (hm : X.mg x = some (.ref f))
    (hk : PySem.W.keepIn X.K (.ref f) = true) (hb : Binds X.K fd ps ds) (hd : Vals dvs ds)
    (hx : Passes CX X E) (ha : PA X (e :: es) t)
    (hdb : (x == ("__debug__" : Str)) = false := by decide)
    (he : starEach (e :: es) X.env = (false, eval e X.env) :: starEach es X.env := by rfl)
    (hpl : (backTo pos (starEach es X.env)).any (·.1) = false := by rfl) :
    PE X (.Call (.Name x p) (e :: es) [] pos) (tCall sp dvs E t) := by
  refine ⟨fun pins s σ H Q I h => wpAny_Call_Name_kw (ld_glob I hg hm ?_ hdb)⟩
  refine PySem.W.callWith_K (h₀ := X.base) I.ok.mod.kin hk
    (thn (ha.run pos pins s σ H _ I h) fun us s1 ⟨vs, H1, I1, r, q⟩ => ⟨I1.kIn, ?_⟩) he hpl
  exact run_fnG hG F hr hb hd hx I1 r q
end

/-! ### the power of great numbers -/
section
variable {X : Cx}
def CPw : Int → Int → Prop := fun i j => 0 ≤ j ∧ (Builtin.Int.intBits i : Int) * j ≤ 2 ^ 27
theorem op_powW : OpR X (binaryOp .Pow) (rI CPw fun i j => .int (i ^ j.toNat)) :=
  opI fun _ _ _ _ _ _ _ hc q => pow_int hc.1 hc.2 q
end
end V9
/-! exceptions of own classes held as values: the library's making of one -/
namespace V9
open PySem
open PySem.HandSPX
/-! ### the library's making of such an exception, with keywords -/
section
variable {M : Model} {A : Around} {E : Value → Shared → Prop} {h : Heap} {g : Array GenState} {d : Drawn} {t : Nat} {os : OsState}
variable {nm q : Str} {C N : Addr} {bs bm bmB : List Value} {hdct : Bool} {sn : List Str} {sub : List Value} {ab : Bool} {col : Option Bool} {dd : Option Addr}
  {k0 k1 k2 k3 k5 : Option Value} {B newId initId : String}
theorem check_newK (F : ExcBaseFacts B newId initId bmB) (hT : ∀ X : String, bm.contains (.type X) = bmB.contains (.type X))
    {rest : List Value} {kw : List (Str × Value)} {Q : Unit → Shared → Prop}
    (hC : h.get? C = some (excClassObj nm q C N bs bm hdct sn sub ab col dd k0 k1 k2 k3 k5 newId))
    (hq : Q () ⟨h, g, d, t, os⟩) :
    wpAny M A (checkBuiltinCall newId ⟨.ref C :: rest, kw⟩) Q E ⟨h, g, d, t, os⟩ := by
  have c1 : (Value.ref C :: bm).contains (.type B) = true := by
    rw [List.contains_cons, hT, F.hasB, Bool.or_true]
  have c2 := F.noStar
  simp only [checkBuiltinCall, F.newKind, F.newSplit, F.newRow]
  repeat (first
    | refine wpAny_loadPart_at hC ?_
    | (refine wpAny_isSubtype_exc hC ?_; rw [c1])
    | refine wpAny_staticBase_exc hC ?_
    | refine wpAny_madeBy_exc hC ?_
    | simp only [bne_self_eq_false, Bool.false_eq_true, if_false]
    | wp_step)
  exact hq
end
section
variable {prog : Program} {w : World} {A : Around} {E : Value → Shared → Prop} {R : Result → Shared → Prop}
  {h : Heap} {g : Array GenState} {d : Drawn} {t : Nat} {os : OsState}
variable {nm q : Str} {C N : Addr} {bs bm bmB : List Value} {hdct : Bool} {sn : List Str} {sub : List Value} {ab : Bool} {col : Option Bool} {dd : Option Addr}
  {k0 k1 k2 k3 k5 : Option Value} {B newId initId : String}
abbrev twoMore (h : Heap) (C : Addr) (rest : List Value) : Heap :=
  (h.push (W.kdv_tup rest)).push (excO C h.objs.size)
theorem newK (F : ExcBaseFacts B newId initId bmB) (hT : ∀ X : String, bm.contains (.type X) = bmB.contains (.type X))
    {rest : List Value} {kw : List (Str × Value)}
    (hC : h.get? C = some (excClassObj nm q C N bs bm hdct sn sub ab col dd k0 k1 k2 k3 k5 newId))
    (hq : R (.ok (.ret (.ref (h.objs.size + 1)))) ⟨twoMore h C rest, g, d, t, os⟩) (hrest : rest.length ≤ sizeLine) :
    codeAny (model prog w) A (.builtin newId ⟨.ref C :: rest, kw⟩) R ⟨h, g, d, t, os⟩ := by
  have f0 := F.ends
  have c1 : (Value.ref C :: bm).contains (.type B) = true := by
    rw [List.contains_cons, hT, F.hasB, Bool.or_true]
  have c2 : (Value.ref C :: bm).contains (.type "AttributeError") = false := by
    rw [List.contains_cons, hT, F.noAttr]; rfl
  have c3 : (Value.ref C :: bm).contains (.type "NameError") = false := by
    rw [List.contains_cons, hT, F.noName]; rfl
  refine codeAny_builtinAt F.entry ?_
  unfold Builtin.«BaseException.__new__»
  refine wpAt_bind ?_
  show wpAt _ _ _ (stack >>= _) _ _ _
  refine wpAt_bind (wpAt_stack fun p below => wpAt_of_wpAny ?_)
  wp_walk
  refine wpAt_of_wpAny ?_
  rw [F.owner]
  repeat (first
    | with_reducible refine wpAny_madeHere_exc F.canon hC ?_
    | with_reducible refine wpAny_loadPart_at hC ?_
    | (with_reducible refine wpAny_isSubtype_exc hC ?_; first | rw [c1] | rw [c2] | rw [c3])
    | wp_step)
  show R _ _
  rw [Heap.size_push]
  exact hq
theorem two_keep {rest : List Value} : ∀ b o, h.get? b = some o → (twoMore h C rest).get? b = some o :=
  fun _ _ e => Heap.get?_push_of_some _ (Heap.get?_push_of_some _ e)
theorem two_at {rest : List Value} : (twoMore h C rest).get? (h.objs.size + 1) = some (excO C h.objs.size) := by
  unfold twoMore
  heap_get
theorem typeCallK (F : ExcBaseFacts B newId initId bmB) (hT : ∀ X : String, bm.contains (.type X) = bmB.contains (.type X))
    {rest : List Value} {kw : List (Str × Value)} {fI : Addr} {Q : Fin → Shared → Prop}
    (hC : h.get? C = some (excClassObj nm q C N bs bm hdct sn sub ab col dd k0 k1 k2 k3 k5 newId))
    (hi : W.Looks (model prog w) h (typeLookup (.ref C) "__init__") (some (.ref fI)))
    (hb : ∀ self, W.Looks (model prog w) h (bindSpecial (.ref fI) self) (.ref fI, [self])) (hrest : rest.length ≤ sizeLine)
    (hq : codeAny (model prog w) A (.call (.ref fI) ⟨.ref (h.objs.size + 1) :: rest, kw⟩)
      (fun r s' => match r with
        | .ok (.ret v) => v = .none ∧ Q (.done (.ret (.ref (h.objs.size + 1)))) s'
        | .ok _ => False
        | .error e => E e s') ⟨twoMore h C rest, g, d, t, os⟩) :
    wpAny (model prog w) A (Builtin.«type.__call__» ⟨.ref C :: rest, kw⟩) Q E ⟨h, g, d, t, os⟩ := by
  repeat (first
    | with_reducible refine wpAny_loadPart_at hC ?_
    | with_reducible refine wpAny_madeBy_exc hC ?_
    | wp_step)
  refine codeAny_call_builtin_code (Code.quiet_builtin _ F.quiet) (check_newK F hT hC ?_)
  refine newK F hT hC ?_ hrest
  show wpAny _ _ _ _ _ _
  have k := two_keep (h := h) (C := C) (rest := rest)
  have hC₁ := k _ _ hC
  have hget := two_at (h := h) (C := C) (rest := rest)
  have c4 : (Value.ref C :: bm).contains (.ref C) = true := by simp
  have i1 := hi.keeps k
  have b1 := (hb (.ref (h.objs.size + 1))).keeps k
  unfold isInstance
  repeat (first
    | with_reducible refine wpAny_loadPart_at hget ?_
    | (with_reducible refine wpAny_isSubtype_exc hC₁ ?_; rw [c4])
    | wp_step)
  show wpAny _ _ (typeLookup (.ref C) _) _ _ _
  refine i1.at ?_
  refine wpAny_holding (wpAny_bind (b1.at ?_))
  refine wpAny_bind (wpAny_call (codeAny_mono hq fun r s' z => ?_))
  rcases r with e | (v | _ | _ | _) <;> first | exact z | exact z.elim | skip
  obtain ⟨rfl, z⟩ := z
  first
    | exact wpAny_pure (wpAny_pure z)
    | (wp_walk; exact z)
theorem callClsK (F : ExcBaseFacts B newId initId bmB) (hT : ∀ X : String, bm.contains (.type X) = bmB.contains (.type X))
    {rest : List Value} {kw : List (Str × Value)} {fI : Addr}
    (hC : h.get? C = some (excClassObj nm q C N bs bm hdct sn sub ab col dd k0 k1 k2 k3 k5 newId))
    (hi : W.Looks (model prog w) h (typeLookup (.ref C) "__init__") (some (.ref fI)))
    (hb : ∀ self, W.Looks (model prog w) h (bindSpecial (.ref fI) self) (.ref fI, [self])) (hrest : rest.length ≤ sizeLine)
    (hq : codeAny (model prog w) (A.under (.builtin "type.__call__" ⟨.ref C :: rest, kw⟩))
      (.call (.ref fI) ⟨.ref (h.objs.size + 1) :: rest, kw⟩) (W.InitBack (h.objs.size + 1) R) ⟨twoMore h C rest, g, d, t, os⟩) :
    codeAny (model prog w) A (.call (.ref C) ⟨rest, kw⟩) R ⟨h, g, d, t, os⟩ := by
  have f1 := tc_lookup
  have f2 := tc_bind (.ref C)
  have f3 : (⟨h, g, d, t, os⟩ : Shared).TypeIs (.ref C) "type" := ⟨_, hC, rfl⟩
  refine codeAny_of_tree ?_
  show wpAny _ _ (callAny (.ref C) _) _ _ _
  repeat (any_goals (first
    | assumption
    | with_reducible refine wpAny_loadPart_at hC ?_
    | wp_step))
  refine ⟨rfl, ?_⟩
  refine codeAny_call_builtin_at (Code.quiet_builtin _ (by decide +kernel)) entry_typeCall ?_
  refine wpAny_check_type_call_sub hC (typeCallK F hT hC hi hb hrest ?_)
  refine codeAny_mono hq fun r s' z => ?_
  rcases r with e | (v | _ | _ | _) <;> exact z
end
end V9
/-! exceptions of own classes held as values -/
namespace V9
open PySem L2
open PySem.Spec
open PyProof.Rows
open PySem.HandSPX
/-! ### C(e), C(k = e) as an expression -/
/-- C(..): a new exception, then the __init__ that C has -/
def tPeO (C : Addr) (sp : Sp) (ta : TA) : TE := fun σ H Q => ta σ H fun vs H1 => vs.length ≤ 1000 ∧
  ∀ a, H1 a = none → sp (.ref a :: vs) (upd H1 a (exo a C none)) (fun v H2 => v = .non ∧ Q (.ref a) H2) (fun _ _ _ => False)
section
variable {X : Cx} {CX : CXT} {x : Str} {C fI : Addr} {k : Nat} {fd : FuncData} {ps : List Str} {sp : Sp}
  {p pos : Pos} {e : Expr} {es : List Expr} {ta : TA}
theorem run_oex {pins : List (Addr × Obj)} {σ : L2.St} {H1 : Hp} {s1 : Shared} {us ws : List Value} {ks : List Str} {vs : List V} {Q : VK}
    (T : OexC X.K C)
    (iC : PySem.W.findIn X.K (.ref C) "__init__" = some (some (.ref fI)))
    (tI : PySem.W.typeIn X.K (.ref fI) = some (.type "function"))
    (F1 : FnOk X.prog X.w X.K X.mg X.base CX k fI fd ps sp) (hr : Room (k + 1) X.A)
    (hx : Passes CX X (fun _ _ _ => False))
    (hb : ∀ s : Shared, X.K.In s.heap → ∀ a, BindsTo s fd ⟨.ref a :: us, ks.zip ws⟩ (ps.zip (.ref a :: (us ++ ws))))
    (I1 : Inv X pins σ H1 s1) (r1 : Vals vs (us ++ ws)) (hz : us.length ≤ sizeLine)
    (q1 : ∀ a, H1 a = none → sp (.ref a :: vs) (upd H1 a (exo a C none)) (fun v H2 => v = .non ∧ Q (.ref a) H2) (fun _ _ _ => False)) :
    wpAny (model X.prog X.w) X.A (call (.ref C) us (ks.zip ws)) (EP X pins σ Q) X.xe s1 := by
  obtain ⟨nm, q, N, bs, bm, sn, sub, ab, col, dd, k0, k1, k2, k3, k5, hC, hbm⟩ := T.cls
  obtain ⟨hp, g, dr, tk, os⟩ := s1
  have hsz : hp.objs.size ≤ hp.objs.size + 1 := Nat.le_succ _
  have hn : H1 (hp.objs.size + 1) = none := I1.hok.fresh hsz
  have hq := q1 (hp.objs.size + 1) hn
  have kk := two_keep (h := hp) (C := C) (rest := us)
  have hget := two_at (h := hp) (C := C) (rest := us)
  have I2 : Inv X pins σ (upd H1 (hp.objs.size + 1) (exo (hp.objs.size + 1) C none)) ⟨twoMore hp C us, g, dr, tk, os⟩ :=
    I1.laid (t' := tk) (a := hp.objs.size + 1) (o := exo (hp.objs.size + 1) C none) (h' := twoMore hp C us) kk hsz (exo_ok hget)
  have r2 : Vals (V.ref (hp.objs.size + 1) :: vs) (Value.ref (hp.objs.size + 1) :: (us ++ ws)) := .cons rfl r1
  refine wpAny_call (callClsK F.excBase_ValueError (fun Y => refsVE_contains Y bm hbm) (I1.kIn _ _ hC)
    (PySem.W.looks_findIn I1.kIn iC) (fun self => PySem.W.bind_fn I1.kIn self tI) hz ?_)
  refine codeAny_mono (F1.run _ X.stack _ _ _ _ _ _ (fun _ _ _ => False) (hr.make C us (ks.zip ws))
    (I2.env0.make C us (ks.zip ws)) (hb _ I2.kIn _) r2 hq) fun r s' hq' => ?_
  match r, hq' with
  | .error er, hq' => exact hx pins σ _ _ er s' I2 hq'
  | .ok (.ret u), hq' =>
    obtain ⟨v, H2, I3, rv, ev, q2⟩ := I2.after hq'
    subst ev
    exact ⟨rv, ⟨V.ref (hp.objs.size + 1), H2, I3, rfl, q2⟩⟩
  | .ok .next, hq' => exact hq'.elim
  | .ok .brk, hq' => exact hq'.elim
  | .ok .cont, hq' => exact hq'.elim
theorem pe_oex (T : OexC X.K C)
    (iC : PySem.W.findIn X.K (.ref C) "__init__" = some (some (.ref fI)))
    (tI : PySem.W.typeIn X.K (.ref fI) = some (.type "function"))
    (F1 : FnOk X.prog X.w X.K X.mg X.base CX k fI fd ps sp) (hr : Room (k + 1) X.A)
    (hb : Binds X.K fd ps []) (hx : Passes CX X (fun _ _ _ => False)) (hg : Gl X x) (hm : X.mg x = some (.ref C))
    (ha : PA X (e :: es) ta) (hdb : (x == ("__debug__" : Str)) = false := by decide)
    (he : starEach (e :: es) X.env = (false, eval e X.env) :: starEach es X.env := by rfl)
    (hpl : (backTo pos (starEach es X.env)).any (·.1) = false := by rfl) :
    PE X (.Call (.Name x p) (e :: es) [] pos) (tPeO C sp ta) := by
  refine ⟨fun pins s σ H Q I h => wpAny_Call_Name_kw (ld_glob I hg hm ?_ hdb)⟩
  refine PySem.W.callWith_K (h₀ := X.base) I.ok.mod.kin T.kC
    (thn (ha.run pos pins s σ H _ I h) fun us s1 ⟨vs, H1, I1, r1, hz, q1⟩ => ⟨I1.kIn, ?_⟩) he hpl
  have hus : us.length ≤ sizeLine := by
    rw [← Paired.length r1, sizeLine_eq]
    omega
  refine run_oex (us := us) (ws := []) (ks := []) (vs := vs) T iC tI F1 hr hx (fun s KX a => ?_) I1
    (by rw [List.append_nil]; exact r1) hus q1
  have hl : ((Value.ref a :: us) ++ []).length = ps.length := by
    have e1 := F1.len _ _ _ _ (q1 s1.heap.objs.size (I1.hok.fresh (Nat.le_refl _)))
    rw [← e1, List.append_nil, List.length_cons, List.length_cons, Paired.length r1]
  exact hb s (Value.ref a :: us) KX hl
theorem pe_oexK {kws : List Keyword} {ks : List Str} {tk : TA} (T : OexC X.K C)
    (iC : PySem.W.findIn X.K (.ref C) "__init__" = some (some (.ref fI)))
    (tI : PySem.W.typeIn X.K (.ref fI) = some (.type "function"))
    (F1 : FnOk X.prog X.w X.K X.mg X.base CX k fI fd ps sp) (hr : Room (k + 1) X.A)
    (hb : ∀ (s : Shared) (a : Addr) (ws : List Value), X.K.In s.heap → ws.length = ks.length →
      BindsTo s fd ⟨[.ref a], ks.zip ws⟩ (ps.zip (.ref a :: ws)))
    (hx : Passes CX X (fun _ _ _ => False)) (hg : Gl X x) (hm : X.mg x = some (.ref C))
    (hkw : PK X kws tk) (hall : (backToKw pos (keywordEach kws X.env)).all (·.1.isSome) = true := by rfl)
    (hks : (backToKw pos (keywordEach kws X.env)).filterMap (·.1) = ks := by rfl)
    (hdb : (x == ("__debug__" : Str)) = false := by decide)
    (hpl : ((backTo pos (starEach [] X.env)).any (·.1) || (backToKw pos (keywordEach kws X.env)).any (·.1.isNone)) = false := by rfl) :
    PE X (.Call (.Name x p) [] kws pos) (tPeO C sp fun σ H Q => tk σ H fun vs H1 => vs.length = ks.length ∧ Q vs H1) := by
  refine ⟨fun pins s σ H Q I h => wpAny_Call_Name_kw (ld_glob I hg hm ?_ hdb)⟩
  refine PySem.W.callWith_KW0 (h₀ := X.base) I.ok.mod.kin T.kC hall
    (thn (hkw.run pos pins s σ H _ I h) fun ws s1 ⟨vs, H1, I1, r1, hl, hz, q1⟩ => ⟨I1.kIn, ?_⟩) hpl
  rw [hks]
  exact run_oex (us := []) (ws := ws) (ks := ks) (vs := vs) T iC tI F1 hr hx
    (fun s KX a => hb s a ws KX (by rw [← Paired.length r1]; exact hl)) I1 r1 (by rw [sizeLine_eq]; decide) q1
end

/-! ### o.f of such an exception; isinstance -/
/-- what is read off it -/
structure OexR (K : PySem.W.Frag) (C : Addr) (f : Str) : Prop where
  ga : PySem.W.findIn K (.ref C) "__getattribute__" = some (some (.builtin "BaseException.__getattribute__"))
  gg : PySem.W.findIn K (.ref C) "__getattr__" = some none
  exC : PySem.W.subIn K (.ref C) (.type "BaseException") = some true
  hd : PySem.W.hasDictIn K C = true
  no : PySem.W.findIn K (.ref C) f = some none
def tXv (K : PySem.W.Frag) (f : Str) (te : TE) : TE := fun σ H Q => te σ H fun x H1 => ∃ (a C dx : Addr) (fs : List (Str × V)) (v : V),
  x = .ref a ∧ H1 a = some (exo a C (some dx)) ∧ H1 dx = some (exd dx fs) ∧ OexR K C f ∧ fs.lookup f = some v ∧ Q v H1
section
variable {X : Cx} {e : Expr} {te : TE} {pos : Pos} {f : Str}
theorem exo_inst {pins : List (Addr × Obj)} {σ : L2.St} {H : Hp} {s : Shared} {a C dx : Addr} {fs : List (Str × V)} {f : Str} {v : V}
    (I : Inv X pins σ H s) (ea : H a = some (exo a C (some dx))) (ed : H dx = some (exd dx fs)) (l : fs.lookup f = some v) :
    ∃ oe od u, PySem.W.InstAt s.heap a oe C (some od) ∧ PySem.W.lookIn f od = some (some u) ∧ RelV v u := by
  obtain ⟨t1, ho⟩ := exo_at I.hok ea
  obtain ⟨mA, hns, rel⟩ := exd_at I.hok ed
  obtain ⟨od, hod, hl⟩ := lookIn_ns hns
  obtain ⟨u, hu, ru⟩ := RelO.some_of (v := v) (o := mA f) (by rw [← l]; exact rel f)
  exact ⟨_, od, u, ⟨ho, rfl, rfl, hod⟩, by rw [hl, hu], ru⟩
theorem pe_xv (he : PE X e te) (hb : attributeBase e f X.env (eval e X.env) = eval e X.env := by rfl) :
    PE X (.Attribute e f pos) (tXv X.K f te) := by
  refine ⟨fun pins s σ H Q I h => attr_of hb (thn (he.run pins s σ H _ I h) fun u s1 hh => ?_)⟩
  obtain ⟨x, H1, I1, rx, a, C, dx, fs, v, ex, ea, ed, T, l, q⟩ := hh
  subst ex
  obtain rfl : u = Value.ref a := rx
  obtain ⟨oe, od, u, J, hl, ru⟩ := exo_inst I1 ea ed l
  exact HandSPX.exc_get I1.kIn J T.ga T.gg T.exC (PySem.W.findObj_own T.hd T.no rfl hl) (handed_of ru) ⟨v, H1, I1.tok _, ru, q⟩
/-- what isinstance asks of the class -/
structure OexI (K : PySem.W.Frag) (D : Addr) : Prop where
  hcl : (PySem.W.clsIn K D).isSome = true
  hg : PySem.W.findIn K (.ref D) "__getattribute__" = some (some (.builtin "BaseException.__getattribute__"))
  hk : PySem.W.findIn K (.ref D) "__getattr__" = some none
  hs : PySem.W.subIn K (.ref D) (.type "BaseException") = some true
  ha : PySem.W.findIn K (.ref D) "__class__" = some (some (.builtin "object.__class__"))
  hn : PySem.W.specialIn K (.builtin "object.__class__") "__get__" = some (some (.builtin "getset_descriptor.__get__"))
  ht : PySem.W.takesIn K (.builtin "object.__class__") = some true
  hm : PySem.W.mroIn K D (.type "object") = some true
/-- isinstance(x, c), x such an exception -/
def rIsX (K : PySem.W.Frag) : List V → Hp → VK → Prop := fun xs H Q => ∃ (a C : Addr) (d : Addr) (fs : List (Str × V)) (f : Str) (z : V) (c : V) (u : Value) (b : Bool),
  xs = [.ref a, c] ∧ H a = some (exo a C (some d)) ∧ H d = some (exd d fs) ∧ fs.lookup f = some z ∧ OexI K C ∧ ClsV c u ∧ PySem.W.kitOne K (.ref C) u = some b ∧ Q (.bl b) H
theorem call_isX : CallR X (.builtin "isinstance") (rIsX X.K) := by
  intro pins s σ H xs us Q I r h
  obtain ⟨a, C, d, fs, f, z, c, u, b, rfl, ea, ed, l, T, k, e, q⟩ := h
  obtain ⟨u1, u2, rfl, r1, r2⟩ := vals2 r
  obtain rfl := k.eq r2
  obtain rfl : u1 = Value.ref a := r1
  obtain ⟨oe, od, u', J, hl, ru⟩ := exo_inst I ea ed l
  exact PySem.W.kia_one (PySem.W.kitx_exc T.hcl T.hg T.hk T.hs T.ha T.hn T.ht T.hm) I.kIn J e (fun z => nomatch z)
    fun tk => ⟨.bl b, H, I.kept (t' := tk) fun _ _ z => z, rfl, q⟩
end
end V9
/-! repr of data, where nothing guards -/
namespace V9
open PySem L2
open PySem.Spec
open PyProof.Rows
mutual
/-- v is the data d: nothing but constants, lists, tuples, dicts of one text key at most -/
inductive Da (H : Hp) : V → PyData → Prop
  | non : Da H .non .none
  | bl (b : Bool) : Da H (.bl b) (.bool b)
  | int (i : Int) : Da H (.int i) (.int i)
  | str (x : Str) : Da H (.str x) (.str x)
  | lst {a : Addr} {xs : List V} {ds : List PyData} : H a = some (.lst xs) → a ≠ sysModules → DaAll H xs ds → Da H (.ref a) (.list ds)
  | tup {a : Addr} {xs : List V} {ds : List PyData} : H a = some (.tup xs) → DaAll H xs ds → Da H (.ref a) (.tuple ds)
  | dic0 {a : Addr} : H a = some (.dK []) → Da H (.ref a) (.dict [])
  | dic1 {a : Addr} {x : Str} {v : V} {d : PyData} : H a = some (.dK [(Sum.inr x, v)]) → Da H v d → Da H (.ref a) (.dict [(.str x, d)])
inductive DaAll (H : Hp) : List V → List PyData → Prop
  | nil : DaAll H [] []
  | cons {v : V} {vs : List V} {d : PyData} {ds : List PyData} : Da H v d → DaAll H vs ds → DaAll H (v :: vs) (d :: ds)
end
mutual
theorem Da.same {H H' : Hp} (e : Same H H') : ∀ {v : V} {d : PyData}, Da H v d → Da H' v d
  | _, _, .non => .non
  | _, _, .bl b => .bl b
  | _, _, .int i => .int i
  | _, _, .str x => .str x
  | _, _, .lst h n r => .lst (e _ _ h) n (DaAll.same e r)
  | _, _, .tup h r => .tup (e _ _ h) (DaAll.same e r)
  | _, _, .dic0 h => .dic0 (e _ _ h)
  | _, _, .dic1 h r => .dic1 (e _ _ h) (Da.same e r)
theorem DaAll.same {H H' : Hp} (e : Same H H') : ∀ {vs : List V} {ds : List PyData}, DaAll H vs ds → DaAll H' vs ds
  | _, _, .nil => .nil
  | _, _, .cons a r => .cons (Da.same e a) (DaAll.same e r)
end
section
variable {X : Cx} {pins : List (Addr × Obj)} {σ : L2.St} {H : Hp} {s : Shared}
mutual
theorem Da.reads (I : Inv X pins σ H s) : ∀ (d : PyData) (v : V) (u : Value), Da H v d → RelV v u →
    ∃ as, Reads s.heap u d as ∧ sysModules ∉ as
  | .none, _, _, h, r => by
    cases h; cases r
    exact ⟨_, Reads.none, by simp⟩
  | .bool b, _, _, h, r => by
    cases h; cases r
    exact ⟨_, Reads.bool b, by simp⟩
  | .int i, _, _, h, r => by
    cases h; obtain ⟨t, rfl⟩ := r
    exact ⟨_, Reads.int i t, by simp⟩
  | .str x, _, _, h, r => by
    cases h; obtain ⟨t, rfl⟩ := r
    exact ⟨_, Reads.str x t, by simp⟩
  | .list ds, _, _, h, r => by
    cases h with
    | lst hs hn ha =>
      cases r
      obtain ⟨_, its, n, rv, ho⟩ := (show ObjOk X.prog X.w H s.heap _ (.lst _) from I.hok _ _ hs)
      obtain ⟨as, hr, hm⟩ := DaAll.reads I ds _ its ha rv
      exact ⟨_, Reads.list ho rfl rfl hr, fun z => (List.mem_cons.mp z).elim (fun e => hn e.symm) hm⟩
  | .tuple ds, _, _, h, r => by
    cases h with
    | tup hs ha =>
      cases r
      obtain ⟨_, its, rv, o, ho, hc, n, hd⟩ := (show ObjOk X.prog X.w H s.heap _ (.tup _) from I.hok _ _ hs)
      obtain ⟨as, hr, hm⟩ := DaAll.reads I ds _ its ha rv
      exact ⟨_, Reads.tuple ho hc hd hr, hm⟩
  | .dict kvs, _, _, h, r => by
    cases h with
    | dic0 hs =>
      cases r
      obtain ⟨_, hy, vs, rv, o, es, ep, ho, hx, hd, _, hp, _⟩ := (show ObjOk X.prog X.w H s.heap _ (.dK _) from I.hok _ _ hs)
      cases rv
      cases e : es.toList with
      | cons a b => rw [e] at hp; cases hp
      | nil =>
        refine ⟨_, Reads.dict (as := []) (bs := []) ho hx.1 hd (by rw [e]; exact .nil) (by rw [e]; exact .nil), ?_⟩
        simp only [List.append_nil, List.mem_singleton]
        exact fun z => by rw [← z] at hy; simp at hy
    | @dic1 a x v d hs hv =>
      cases r
      obtain ⟨_, hy, vs, rv, o, es, ep, ho, hx, hd, _, hp, _⟩ := (show ObjOk X.prog X.w H s.heap _ (.dK _) from I.hok _ _ hs)
      cases rv with
      | @cons _ q _ _ r1 rr =>
        cases rr
        obtain ⟨e1, e2⟩ := r1
        cases e : es.toList with
        | nil => rw [e] at hp; cases hp
        | cons a b =>
          rw [e] at hp
          cases hp with
          | cons h1 h2 h3 =>
            cases h3
            rw [← e1] at h1
            have h1' : keyIs (Sum.inr x) a.key = true := h1
            rcases keyIs_shape h1' with ⟨i, t, z, _⟩ | ⟨y, t, z, ek⟩
            · cases z
            · cases z
              obtain ⟨as, hr, hm⟩ := Da.reads I d v q.2 hv e2
              refine ⟨_, Reads.dict (as := [] ++ []) (bs := as ++ []) ho hx.1 hd ?_ ?_, ?_⟩
              · rw [e]
                show ReadsAll s.heap [a.key] [.str x] ([] ++ [])
                rw [ek]
                exact .cons (.str x t) .nil
              · rw [e]
                show ReadsAll s.heap [a.val] [d] (as ++ [])
                rw [h2]
                exact .cons hr .nil
              · simp only [List.append_nil, List.cons_append, List.nil_append]
                exact fun z => (List.mem_cons.mp z).elim (fun e => by rw [← e] at hy; simp at hy) hm
theorem DaAll.reads (I : Inv X pins σ H s) : ∀ (ds : List PyData) (vs : List V) (us : List Value), DaAll H vs ds → Vals vs us →
    ∃ as, ReadsAll s.heap us ds as ∧ sysModules ∉ as
  | [], _, _, h, r => by
    cases h; cases r
    exact ⟨_, ReadsAll.nil, by simp⟩
  | d :: ds, _, _, h, r => by
    cases h with
    | cons h1 h2 =>
      cases r with
      | cons r1 r2 =>
        obtain ⟨as, q1, m1⟩ := Da.reads I d _ _ h1 r1
        obtain ⟨bs, q2, m2⟩ := DaAll.reads I ds _ _ h2 r2
        exact ⟨_, ReadsAll.cons q1 q2, fun z => (List.mem_append.mp z).elim m1 m2⟩
end
end
/-- repr(x), x data -/
def rRep : List V → Hp → VK → Prop := fun xs H Q => ∃ (x : V) (d : PyData), xs = [x] ∧ Da H x d ∧ d.showable = true ∧ d.shown.length ≤ sizeLine ∧ d.depth ≤ 100 ∧ Q (.str d.shown) H
theorem call_rep {X : Cx} (hG : X.A.guards = some []) (hu : X.A.units + 150 < cLine) : CallR X (.builtin "repr") rRep := by
  intro pins s σ H xs us Q I r h
  obtain ⟨x, d, rfl, hd, hs, hz, hp, q⟩ := h
  obtain ⟨u, rfl, ru⟩ := vals1 r
  obtain ⟨as, rd, hm⟩ := Da.reads I d x u hd ru
  have fin : ∀ (h' : Heap) (t tk : Tok), (∀ b o, s.heap.get? b = some o → h'.get? b = some o) →
      EP X pins σ Q (.str d.shown t) { s with heap := h', toks := tk } := fun h' t tk k => ⟨.str d.shown, H, I.kept k, ⟨t, rfl⟩, q⟩
  cases rd with
  | none => exact PySem.P.repr_of_none (fin _ _ _ fun _ _ e => e)
  | bool b => exact PySem.P.repr_of_bool (fin _ _ _ fun _ _ e => e)
  | int i t => exact PySem.P.repr_of_int (by simpa [PyData.showable] using hs) (fin _ _ _ fun _ _ e => e)
  | str y t => exact PySem.P.repr_of_str (fin _ _ _ fun _ _ e => e) (by simpa only [PyData.shown] using hz)
  | list h1 h2 h3 h4 =>
    exact repr_of_reads' (.list h1 h2 h3 h4) hs (fun _ => hm) hG (by omega) (fun _ _ e => e) (fun h' t tk k => fin h' t tk k) hz
  | tuple h1 h2 h3 h4 =>
    exact repr_of_reads' (.tuple h1 h2 h3 h4) hs (fun _ => hm) hG (by omega) (fun _ _ e => e) (fun h' t tk k => fin h' t tk k) hz
  | dict h1 h2 h3 h4 h5 =>
    exact repr_of_reads' (.dict h1 h2 h3 h4 h5) hs (fun _ => hm) hG (by omega) (fun _ _ e => e) (fun h' t tk k => fin h' t tk k) hz
/-- a list display, its place being none of the interpreter's own -/
def tLstN (t : TA) : TE := fun σ H Q => t σ H fun xs H1 => xs.length ≤ sizeLine ∧ ∀ p, H1 p = none → p ≠ sysModules → Q (.ref p) (upd H1 p (.lst xs))
theorem pe_lstN {X : Cx} {es : List Expr} {t : TA} {pos : Pos} (h : PA X es t) : PE X (.List es pos) (tLstN t) := by
  refine ⟨fun pins s σ H Q I hq => wpAny_List_spliced (thn (h.run pos pins s σ H _ I hq) fun us s1 ⟨xs, H1, I1, r, z, q⟩ => ⟨by rw [← r.length]; exact z, ?_⟩)⟩
  have hf : H1 s1.heap.objs.size = none := I1.hok.fresh (Nat.le_refl _)
  have hs : s1.heap.objs.size ≠ sysModules := fun e => by
    obtain ⟨o, _, _, ho, _⟩ := I1.ok.mod.glob
    have := Heap.lt_size (I1.bk _ _ ho)
    rw [e] at this
    exact absurd this (by decide)
  exact ⟨.ref s1.heap.objs.size, upd H1 s1.heap.objs.size (.lst xs), I1.laid (t' := s1.toks) (fun b u e => Heap.get?_push_of_some _ e) (Nat.le_refl _)
    ⟨z, us, 0, r, Heap.get?_push_size _ rfl⟩, rfl, q _ hf hs⟩
end V9
/-! the head's facts by any test of one's own; the end of a law whose def keeps its promise where nothing guards -/
namespace V9
open PySem L2
open PySem.Spec
open PyProof.Rows
/-! ### facts by a test -/
def obsV (fb : PySem.W.Frag → Bool) (fn : List He.DefD) (K : PySem.W.Frag) : He.AlD :=
  (fb K && fn.all fun d => d.ok K, fn.map fun d => He.fnW K d.at_)
def valV (fn : List He.DefD) : He.AlD := (true, fn.map He.DefD.val)
def obsVG (n : Nat) (fb : PySem.W.Frag → Bool) (fn : List He.DefD) (g : Addr → Option Obj) : He.AlD := obsV fb fn (He.frG g (He.asD g n))
def hookV (n : Nat) (fb : PySem.W.Frag → Bool) (fn : List He.DefD) : PySem.W.Hook where
  α := He.AlD
  obs s := obsVG n fb fn s.heap.get?
  val _ := valV fn
  says _ h := ∃ K : PySem.W.Frag, K.In h ∧ obsV fb fn K = valV fn
  of _ _ e := ⟨_, He.frG_in, e⟩
  keeps _ _ _ z k := z.elim fun K q => ⟨K, PySem.W.Frag.In.keeps q.1 k, q.2⟩
theorem obsVG_eq {n : Nat} {fb : PySem.W.Frag → Bool} {fn : List He.DefD} {g : Addr → Option Obj} {s : Shared} (h : ∀ a, g a = s.heap.get? a) :
    obsVG n fb fn g = (hookV n fb fn).obs s := by
  have e : g = s.heap.get? := funext h
  rw [e]; rfl
section
variable {fb : PySem.W.Frag → Bool} {fn : List He.DefD} {K : PySem.W.Frag}
theorem says_fb (c : obsV fb fn K = valV fn) : fb K = true :=
  (He.ba (congrArg (fun z : He.AlD => z.1) c)).1
theorem says_def (c : obsV fb fn K = valV fn) (i : Nat) {d : He.DefD} (h : fn[i]? = some d := by rfl) :
    ∃ fd, FunD K d.name d.qual d.params d.body d.scope (d.dvs K) (d.kws K) (He.fAd K d.at_) fd := by
  have c2 : (fn.all fun d => d.ok K) = true := (He.ba (congrArg (fun z : He.AlD => z.1) c)).2
  have e2 : fn.map (fun d => He.fnW K d.at_) = fn.map He.DefD.val := congrArg (fun z : He.AlD => z.2) c
  have e3 : (fn.map fun d => He.fnW K d.at_)[i]? = (fn.map He.DefD.val)[i]? := by rw [e2]
  rw [List.getElem?_map, List.getElem?_map, h] at e3
  exact He.DefD.funD (Option.some.inj e3) (List.all_eq_true.mp c2 d (List.mem_of_getElem? h))
/-- a def without defaults -/
theorem fun_of {x qual : Str} {st : Stmt} {f : Addr} {fd : FuncData} (F : FunD K x qual (defArgs st) (defBody st) (defScope st) [] [] f fd) : Fun K x qual st f fd := by
  obtain ⟨oc, od, dV, kV, doc, pm, an, cdv, ct, osl, e, lk, hc, hD, _⟩ := F.ex
  rcases hD with ⟨_, rfl⟩ | ⟨n, _⟩
  · exact ⟨⟨oc, od, kV, doc, pm, an, cdv, ct, osl, e, lk, hc⟩, F.kp⟩
  · exact absurd rfl n
/-- a def of the text, at the module's name x -/
abbrev dOf (x : Str) (st : Stmt) : He.DefD := ⟨(x, none), x, x, defArgs st, defBody st, defScope st, [], []⟩
/-- .. a class's method -/
abbrev mOf (c x q : Str) (st : Stmt) : He.DefD := ⟨(c, some x), x, q, defArgs st, defBody st, defScope st, [], []⟩
end
/-! ### an exception class over ValueError, tested -/
def oexB (K : PySem.W.Frag) (C : Addr) : Bool := match K.lookup C with
  | some ⟨.type t, _, .cls ⟨_, _, .ref C' :: bm, _, _, hd, _, _, _, _, del⟩, ⟨[_, _, _, _, some (.builtin n), _]⟩⟩ =>
    decide (t = "type") && (decide (C' = C) && (HandSPX.refsVE bm && (hd && (!del && decide (n = "ValueError.__new__")))))
  | _ => false
theorem oexB_ok {K : PySem.W.Frag} {C : Addr} (h : oexB K C = true) : ∃ nm q N bs bm sn sub ab col dd k0 k1 k2 k3 k5,
    K.lookup C = some (excClassObj nm q C N bs bm true sn sub ab col dd k0 k1 k2 k3 k5 "ValueError.__new__") ∧ HandSPX.refsVE bm = true := by
  unfold oexB at h
  split at h
  · rename_i t dd nm bs C' bm ns qn hd sn sub ab col del k0 k1 k2 k3 n k5 e
    obtain ⟨h1, h⟩ := Bool.and_eq_true_iff.mp h
    obtain ⟨h2, h⟩ := Bool.and_eq_true_iff.mp h
    obtain ⟨h3, h⟩ := Bool.and_eq_true_iff.mp h
    obtain ⟨h4, h⟩ := Bool.and_eq_true_iff.mp h
    obtain ⟨h5, h6⟩ := Bool.and_eq_true_iff.mp h
    have e1 := of_decide_eq_true h1
    have e2 := of_decide_eq_true h2
    have e6 := of_decide_eq_true h6
    have e5 : del = false := by cases del <;> simp_all
    subst e1 e2 e5 e6
    have e4 : hd = true := h4
    subst e4
    exact ⟨_, _, _, _, _, _, _, _, _, _, _, _, _, _, _, e, h3⟩
  · cases h
def finB (K : PySem.W.Frag) (C : Addr) (n : Str) (v : Option Value) : Bool := decide (PySem.W.findIn K (.ref C) n = some v)
/-- what making, reading f, isinstance ask of the class at C, whose __init__ is fI -/
def excB (K : PySem.W.Frag) (fI C : Addr) (f : Str) : Bool :=
  oexB K C && (finB K C "__setattr__" (some (.builtin "object.__setattr__")) && (decide (PySem.W.subIn K (.ref C) (.type "BaseException") = some true) && (decide (PySem.W.typeIn K (.ref C) = some (.type "type")) &&
  (PySem.W.keepIn K (.ref C) && (finB K C "__init__" (some (.ref fI)) && (finB K C "__getattribute__" (some (.builtin "BaseException.__getattribute__")) && (finB K C "__getattr__" none && (PySem.W.hasDictIn K C &&
  (finB K C f none && ((PySem.W.clsIn K C).isSome && (finB K C "__class__" (some (.builtin "object.__class__")) && decide (PySem.W.mroIn K C (.type "object") = some true))))))))))))
/-- .. of the written part, for isinstance -/
def clsB (K : PySem.W.Frag) : Bool := decide (PySem.W.specialIn K (.builtin "object.__class__") "__get__" = some (some (.builtin "getset_descriptor.__get__"))) && decide (PySem.W.takesIn K (.builtin "object.__class__") = some true)
theorem excB_ok {K : PySem.W.Frag} {fI C : Addr} {f : Str} (h : excB K fI C f = true) (c : clsB K = true) :
    OexC K C ∧ PySem.W.findIn K (.ref C) "__init__" = some (some (.ref fI)) ∧ OexR K C f ∧ OexI K C := by
  have b := fun {a b : Bool} (h : (a && b) = true) => Bool.and_eq_true_iff.mp h
  obtain ⟨h1, h⟩ := b h
  obtain ⟨h2, h⟩ := b h
  obtain ⟨h3, h⟩ := b h
  obtain ⟨h4, h⟩ := b h
  obtain ⟨h5, h⟩ := b h
  obtain ⟨h6, h⟩ := b h
  obtain ⟨h7, h⟩ := b h
  obtain ⟨h8, h⟩ := b h
  obtain ⟨h9, h⟩ := b h
  obtain ⟨h10, h⟩ := b h
  obtain ⟨h11, h⟩ := b h
  obtain ⟨h12, h13⟩ := b h
  obtain ⟨c1, c2⟩ := b c
  have d := fun {p : Prop} [Decidable p] (h : decide p = true) => of_decide_eq_true h
  exact ⟨⟨oexB_ok h1, of_decide_eq_true h2, of_decide_eq_true h3, of_decide_eq_true h4, h5⟩, of_decide_eq_true h6,
    ⟨of_decide_eq_true h7, of_decide_eq_true h8, of_decide_eq_true h3, h9, of_decide_eq_true h10⟩,
    ⟨h11, of_decide_eq_true h7, of_decide_eq_true h8, of_decide_eq_true h3, of_decide_eq_true h12, of_decide_eq_true c1, of_decide_eq_true c2, of_decide_eq_true h13⟩⟩
end V9
/-! a law's end, its def keeping its promise where nothing guards -/
namespace V9
open PySem L2
open PySem.Spec
open PyProof.Rows
section
variable {P : Program} {w : World} {K : PySem.W.Frag} {mg mb : Str → Option Value} {k : Nat} {fa a : Addr}
  {fd : FuncData} {x : Str} {sp : Sp} {s₁ : Shared} {vs : List Value} {ns : List Int}
/-- from an abstract heap in which nothing but the script, known, may stand -/
theorem law_from (KX : K.In s₁.heap) (hns : s₁.heap.Ns mainGlobals mg) (hb : s₁.heap.Ns builtinsNs mb)
    (hbb : ∀ x : Str, x ≠ "__name__" → mb x = bootBuiltins x) (hlim : s₁.heap.NoLimit) (hg : s₁.gens = #[])
    (ha : s₁.heap.get? a = some { cls := .type "list", data := .seq vs.toArray }) (hr : Room k callerA)
    (F : ∀ base : Heap, K.In base → base.Ns mainGlobals mg → FnG P w K mg base CX0 k fa fd [x] sp)
    (hbind : ∀ (s : Shared) (u : Value), BindsTo s fd ⟨[u], []⟩ [(x, u)])
    (hsp : ∀ H : Hp, Only H → SqL K H a (ns.map V.int) → sp [.ref a] H (fun v _ => v = .bl true) fun _ _ _ => False)
    (H : Hp) (hO : Only H) (hS : SqL K H a (ns.map V.int)) (hok : HOk P w H s₁.heap) (hA : ∀ b, H b ≠ none → b = a) (hK : H a ≠ none → K.lookup a = none) :
    codeAny (model P w) callerA (.call (.ref fa) ⟨[.ref a], []⟩) (fun r s' => r = .ok (.ret (.bool true)) ∧ OldK s₁.heap s'.heap ∧ s'.os = s₁.os ∧ AllBare s'.gens) s₁ := by
  have at_a : ∀ {b : Addr}, H b ≠ none → s₁.heap.get? b = some { cls := .type "list", data := .seq vs.toArray } := fun {b} n => by rw [hA b n]; exact ha
  have noD : ∀ {b : Addr} {o : Obj} {es : Array DictEntry} {ep : Nat}, s₁.heap.get? b = some o → o.data = .dict es ep → H b = none := fun {b o es ep} e d => by
    cases q : H b with
    | none => rfl
    | some u =>
      have z := (at_a (by rw [q]; simp)).symm.trans e
      cases z
      cases d
  have nsK : ∀ {b : Addr} {m : Str → Option Value}, s₁.heap.Ns b m → (hidT s₁.heap H).Ns b m := fun {b m} ⟨o, es, ep, e, d, r⟩ => ⟨o, es, ep, hidT_get e (noD e d), d, r⟩
  have hKb : K.In (hidT s₁.heap H) := fun b o e => hidT_get (KX b o e) (by
    cases q : H b with
    | none => rfl
    | some u =>
      have e1 : b = a := hA b (by rw [q]; simp)
      rw [e1] at e q
      rw [hK (by rw [q]; simp)] at e
      cases e)
  have hM : Mod K mg (hidT s₁.heap H) := ⟨hKb, nsK hns, ⟨mb, nsK hb, hbb⟩, let ⟨mc, h1, h2⟩ := hlim; ⟨mc, nsK h1, h2⟩⟩
  have no : ∀ b : Addr, b ∉ frs [] := fun b z => absurd (show b ∈ ([] : List Addr) from z) (by simp)
  have e0 : Env0 P w K mg (hidT s₁.heap H) callerA [] s₁ H :=
    ⟨rfl, hM, fun b o e => of_hidT e, Nat.le_of_eq (hidT_size _ _), trivial, fun b hb => (no b hb).elim, hok, .of_eq hg⟩
  refine codeAny_mono ((F _ hKb (nsK hns)).run callerA [] s₁ H ⟨[.ref a], []⟩ [.ref a] [.ref a] _ _ rfl hr e0 (hbind s₁ (.ref a)) (.cons rfl .nil) (hsp H hO hS)) fun r s' h => ?_
  match r, h with
  | .error e, h => exact h.elim
  | .ok .next, h => exact h.elim
  | .ok .brk, h => exact h.elim
  | .ok .cont, h => exact h.elim
  | .ok (.ret u), h =>
    obtain ⟨v, H', os, bare, un, hok', r', q⟩ := h
    obtain rfl : v = .bl true := q
    obtain rfl : u = Value.bool true := r'
    refine ⟨rfl, OldK.of_keep fun b o e => ?_, os, bare⟩
    cases q : H b with
    | none => exact un.keep b o e q (no b) (by simp)
    | some u =>
      rcases hO b with z | ⟨ob, xs, z⟩
      · rw [q] at z; cases z
      · obtain ⟨e1, _⟩ := hok b _ z
        obtain ⟨e2, _⟩ := hok' b _ (un.frzs b ob _ z)
        rw [e] at e1
        cases e1
        exact e2
theorem law_callG (KX : K.In s₁.heap) (hns : s₁.heap.Ns mainGlobals mg) (hb : s₁.heap.Ns builtinsNs mb)
    (hbb : ∀ x : Str, x ≠ "__name__" → mb x = bootBuiltins x) (hlim : s₁.heap.NoLimit) (hg : s₁.gens = #[])
    (ha : s₁.heap.get? a = some { cls := .type "list", data := .seq vs.toArray }) (hi : IntsAre vs ns) (hl : ns.length ≤ sizeLine) (hr : Room k callerA)
    (F : ∀ base : Heap, K.In base → base.Ns mainGlobals mg → FnG P w K mg base CX0 k fa fd [x] sp)
    (hbind : ∀ (s : Shared) (u : Value), BindsTo s fd ⟨[u], []⟩ [(x, u)])
    (hsp : ∀ H : Hp, Only H → SqL K H a (ns.map V.int) → sp [.ref a] H (fun v _ => v = .bl true) fun _ _ _ => False) :
    codeAny (model P w) callerA (.call (.ref fa) ⟨[.ref a], []⟩) (fun r s' => r = .ok (.ret (.bool true)) ∧ OldK s₁.heap s'.heap ∧ s'.os = s₁.os ∧ AllBare s'.gens) s₁ := by
  have rv := vals_ints hi
  have core := law_from KX hns hb hbb hlim hg ha hr F hbind hsp
  cases hk : K.lookup a with
  | some o =>
    have e := KX a o hk
    rw [ha] at e
    cases e
    have hsz : vs.length ≤ sizeLine := by rw [hi.length]; exact hl
    exact core (fun _ => none) (fun _ => .inl rfl) (.inr ⟨_, vs.toArray, _, hk, rfl, rfl, rfl, by rw [List.size_toArray]; exact hsz, by simpa using rv⟩)
      (fun b u z => nomatch (show (none : Option HO) = some u from z)) (fun b z => absurd rfl z) fun z => absurd rfl z
  | none =>
    let o : Obj := { cls := .type "list", data := .seq vs.toArray }
    refine core (fun b => if b = a then some (.frz o (.lst (ns.map V.int))) else none) (fun b => ?_) (.inl (.inr ⟨o, if_pos rfl⟩)) (fun b u z => ?_) (fun b z => ?_) fun _ => hk
    · by_cases e : b = a
      · exact .inr ⟨_, _, if_pos e⟩
      · exact .inl (if_neg e)
    · by_cases e : b = a
      · have z' := (if_pos e).symm.trans z
        cases z'
        subst e
        exact ⟨ha, by rw [List.length_map]; exact hl, vs, _, rv, ha⟩
      · exact nomatch (if_neg e).symm.trans z
    · by_cases e : b = a
      · exact e
      · exact absurd (if_neg e) z
end
theorem walk_ofG {l : PySem.W.OpenLaw} {n k : Nat} {q : Program} {loose : List Str} {XP : (Str → Option Value) → Heap → Prop} {YP : World → Heap → Prop} {d : DefRec} {x : Str}
    (hn : l.most = some n) (hn2 : n ≤ sizeLine) (hdf : d.params.defaults = []) (hr : Room k callerA)
    (F : ∀ (w : World) (mg : Str → Option Value) (fa : Addr) (h : Heap), YP w h → h.Ns mainGlobals mg → mg d.name = some (.ref fa) →
      ∃ (K : PySem.W.Frag) (fd : FuncData) (sp : Sp), K.In h ∧ (∀ (s : Shared) (u : Value), BindsTo s fd ⟨[u], []⟩ [(x, u)]) ∧
        (∀ (H : Hp) (a : Addr) (ns : List Int), ns.length ≤ n → Only H → SqL K H a (ns.map V.int) → sp [.ref a] H (fun v _ => v = .bl true) fun _ _ _ => False) ∧
        ∀ base : Heap, K.In base → base.Ns mainGlobals mg → FnG l.prog w K mg base CX0 k fa fd [x] sp) :
    PySem.W.WalkO q loose XP YP l.row.toRowW d [] (fun f vs => PySem.call f vs) := by
  refine Att.attach_call hn hdf fun w s₀ s₁ mg mb fa o pm cd doc a vs ns G Y ho hd hcd hmg hobj hints hlen hg => ?_
  obtain ⟨K, fd, sp, KX, hb, hsp, hF⟩ := F w mg fa _ Y G.T.g hmg
  exact law_callG KX G.T.g G.T.b G.T.builtins G.T.nolimit hg hobj hints (Nat.le_trans hlen hn2) hr hF hb fun H hO hS => hsp H a ns hlen hO hS
end V9
/-! the pots of a script: drawn numbers -/
namespace K59
open PySem L2
open PySem.Spec
open PyProof.Rows
open V9
def top (i : Nat) : Stmt := PySem.Challenge.pw_stepsunread_k59_errors_with_any_value.main.body.getD i (.Pass ⟨0, 0, 0, 0⟩)
abbrev sTake : Stmt := top 39
abbrev sOf : Stmt := top 40
abbrev sPotOf : Stmt := top 41
abbrev sOdd : Stmt := top 42
abbrev sMade : Stmt := top 43
abbrev sSorts : Stmt := top 44
abbrev sRight : Stmt := top 45
abbrev sLaw : Stmt := top 46
/-- all but p stands as it stood -/
def But (p : Addr) (H H' : Hp) : Prop := ∀ b o, b ≠ p → H b = some o → H' b = some o
theorem But.refl (p : Addr) (H : Hp) : But p H H := fun _ _ _ h => h
theorem But.trans {p : Addr} {H H1 H2 : Hp} (a : But p H H1) (b : But p H1 H2) : But p H H2 := fun c o n h => b c o n (a c o n h)
theorem But.of {p : Addr} {H H' : Hp} (a : Same H H') : But p H H' := fun c o _ h => a c o h
theorem But.upd {p : Addr} {H : Hp} {o : HO} : But p H (upd H p o) := fun b u n h => by rw [upd_ne n]; exact h
/-- a pot: how often it was drawn from -/
def Pot (H : Hp) (p : Addr) (c : Int) : Prop := ∃ a b : Int, H p = some (.lst [.int a, .int b, .int c]) ∧ 0 ≤ b ∧ b < 2 ^ 62 ∧ 0 ≤ c
theorem Pot.at {H : Hp} {p : Addr} {c : Int} (h : Pot H p c) : ∃ xs, H p = some (.lst xs) := by
  obtain ⟨a, b, e, _⟩ := h
  exact ⟨_, e⟩
def spTake : Sp := fun vs H Q _ => ∃ (p : Addr) (n c : Int), vs = [.ref p, .int n] ∧ Pot H p c ∧ c ≤ 1000000 ∧ 1 ≤ n ∧ n < 1000000 ∧
  ∀ (d c' : Int) (H' : Hp), 0 ≤ d → d < n → But p H H' → Pot H' p c' → c ≤ c' → c' ≤ c + 1 → Q (.int d) H'
section
variable {P : Program} {w : World} {K : PySem.W.Frag} {mg : Str → Option Value} {base : Heap}
theorem scT : FnScope ["_law_pot", "_law_upto", "_law_digit", "_law_prime", "_law_mixed"] ["_law_pot", "_law_upto"] (defScope sTake) :=
  ⟨rfl, rfl, rfl, by decide +kernel, rfl, by decide +kernel, by decide +kernel⟩
theorem mixed_bound {b c : Int} (hb : 0 ≤ b) (hb2 : b < 2 ^ 62) (h0 : 0 ≤ c) (h1 : c ≤ 1000001) : (b + 60041 * c * c + 67).natAbs < 2 ^ 64 := by
  have h2 : 0 ≤ c * c := Int.mul_nonneg h0 h0
  have h3 : c * c ≤ 1000001 * 1000001 := Int.mul_le_mul h1 h1 h0 (by decide)
  have h4 : 60041 * c * c = 60041 * (c * c) := Int.mul_assoc _ _ _
  rw [h4]
  generalize c * c = z at h2 h3
  omega
def five : List V := [.int 2147483647, .int 2147483629, .int 2147483587, .int 2147483579, .int 2147483563]
theorem five_at (z : Int) : ∃ q : Int, atI five (z % 5) = some (.int q) ∧ 2000000000 < q ∧ q < 2147483648 := by
  have h0 : 0 ≤ z % 5 := Int.emod_nonneg _ (by decide)
  have h1 : z % 5 < 5 := Int.emod_lt_of_pos _ (by decide)
  obtain ⟨j, hj⟩ := Int.eq_ofNat_of_zero_le h0
  rw [hj] at h1 ⊢
  have h2 : j < 5 := by omega
  match j, h2 with
  | 0, _ => exact ⟨2147483647, atI_nat (j := 0) rfl, by decide, by decide⟩
  | 1, _ => exact ⟨2147483629, atI_nat (j := 1) rfl, by decide, by decide⟩
  | 2, _ => exact ⟨2147483587, atI_nat (j := 2) rfl, by decide, by decide⟩
  | 3, _ => exact ⟨2147483579, atI_nat (j := 3) rfl, by decide, by decide⟩
  | 4, _ => exact ⟨2147483563, atI_nat (j := 4) rfl, by decide, by decide⟩
theorem ok_take {f : Addr} {fd : FuncData} (F : Fun K "_law_take" "_law_take" sTake f fd) (gI : mg "int" = none) :
    FnOk P w K mg base CX0 1 f fd ["_law_pot", "_law_upto"] spTake := by
  refine F.ok scT (fun vs H Q E h => ?_) (fun cdv A outer s H vs Q E hr h => ?_)
  · obtain ⟨p, n, c, rfl, _⟩ := h
    rfl
  · obtain ⟨p, n, c, rfl, ⟨a, b, hp, b0, b1, c0⟩, c1, n1, n2, k⟩ := h
    have hn : n ≠ 0 := by omega
    refine ⟨_, pss_cons (ps_if (pt_cmpR op_gt (pe_ix ix_list (pv 0) pe_int (fun _ _ => rfl)) pe_int (nomark _))
        (pss_cons (ps_set (i := 2) scT.nd rfl (.inl rfl) (pe_op op_mod (pe_callTy call_int1 (by rfl) gI (by decide +kernel) (pa_cons (pe_ix ix_list (pv 0) pe_int (fun _ _ => rfl)) pa_nil)) (pv 1)))
          (pss_cons (ps_asg (pe_op op_fdivN (pe_ix ix_list (pv 0) pe_int (fun _ _ => rfl)) (pv 1)) (pg_sub (pv 0) pe_int set_list))
            (pss_one (ps_ret (pv 2)))))
        pss_nil)
      (pss_cons (ps_asg (pe_op op_add (pe_ix ix_list (pv 0) pe_int (fun _ _ => rfl)) pe_int) (pg_sub (pv 0) pe_int set_list))
      (pss_cons (ps_set (i := 3) scT.nd rfl (.inl rfl) (pe_ix ix_list (pe_lst (pa_cons pe_int (pa_cons pe_int (pa_cons pe_int (pa_cons pe_int (pa_cons pe_int pa_nil))))))
          (pe_op op_mod (pe_callTy call_int1 (by rfl) gI (by decide +kernel) (pa_cons (pe_ix ix_list (pv 0) pe_int (fun _ _ => rfl)) pa_nil)) pe_int) (fun _ _ => rfl)))
      (pss_cons (ps_set (i := 4) scT.nd rfl (.inl rfl) (pe_op op_mod (pe_op op_pow (pe_callTy call_int1 (by rfl) gI (by decide +kernel)
          (pa_cons (pe_op op_add (pe_op op_add (pe_ix ix_list (pv 0) pe_int (fun _ _ => rfl)) (pe_op op_mul (pe_op op_mul pe_int (pe_ix ix_list (pv 0) pe_int (fun _ _ => rfl))) (pe_ix ix_list (pv 0) pe_int (fun _ _ => rfl)))) pe_int) pa_nil)) pe_int) (pv 3)))
      (pss_one (ps_ret (pe_op op_mod (pe_op op_fdiv (pe_op op_mod (pe_callTy call_int1 (by rfl) gI (by decide +kernel)
          (pa_cons (pe_op op_mul (pv 4) (pe_op op_add (pe_op op_mod (pe_callTy call_int1 (by rfl) gI (by decide +kernel) (pa_cons (pv 4) pa_nil)) pe_int)
            (pe_op op_mul pe_int (pe_ix ix_list (pv 0) pe_int (fun _ _ => rfl))))) pa_nil)) pe_int) pe_int) (pv 1))))))), ?_⟩
    -- if pot[0] > 0
    refine ⟨_, rfl, p, _, 0, _, rfl, rfl, .of hp, atI_nat (j := 0) rfl, _, _, rfl, rfl, _, rfl, ?_⟩
    refine ite2 (fun _ => ?_) (fun _ => ?_)
    · refine ⟨_, rfl, p, _, 0, _, rfl, rfl, .of hp, atI_nat (j := 0) rfl, .inl ⟨_, rfl, _, rfl, _, _, rfl, rfl, by omega, ?_⟩⟩
      refine ⟨_, rfl, p, _, 0, _, rfl, rfl, .of hp, atI_nat (j := 0) rfl, _, rfl, _, _, rfl, rfl, ⟨hn, by omega⟩, _, rfl, p, _, 0, 0, rfl, rfl, hp, rfl, ?_⟩
      refine ⟨_, rfl, ?_⟩
      exact k _ c _ (Int.emod_nonneg _ hn) (Int.emod_lt_of_pos _ (by omega)) But.upd ⟨_, b, upd_same, b0, b1, c0⟩ (Int.le_refl _) (by omega)
    · refine ⟨_, rfl, p, _, 2, _, rfl, rfl, .of hp, atI_nat (j := 2) rfl, _, _, rfl, rfl, _, rfl, p, _, 2, 2, rfl, rfl, hp, rfl, ?_⟩
      refine ⟨by show 5 ≤ sizeLine; decide, fun l hl => ?_⟩
      have hpl : p ≠ l := ne_of_none upd_same hl
      have g1 : (upd (upd H p (.lst [.int a, .int b, .int (c + 1)])) l (.lst five)) p = some (.lst [.int a, .int b, .int (c + 1)]) := by
        rw [upd_ne hpl, upd_same]
      obtain ⟨q, hq, q0, q1⟩ := five_at (c + 1)
      refine ⟨_, rfl, p, _, 2, _, rfl, rfl, .of g1, atI_nat (j := 2) rfl, .inl ⟨_, rfl, _, _, rfl, rfl, by show (0 : Int) < 5; decide, l, five, _, _, rfl, rfl, .of upd_same, hq, ?_⟩⟩
      -- mixed
      have hm := mixed_bound (c := c + 1) b0 b1 (by omega) (by omega)
      refine ⟨_, rfl, p, _, 1, _, rfl, rfl, .of g1, atI_nat (j := 1) rfl, _, rfl, p, _, 2, _, rfl, rfl, .of g1, atI_nat (j := 2) rfl, _, _, rfl, rfl, .inl ⟨by decide, by decide⟩,
        _, rfl, p, _, 2, _, rfl, rfl, .of g1, atI_nat (j := 2) rfl, _, _, rfl, rfl, .inl ⟨by omega, by omega⟩, _, _, rfl, rfl, _, _, rfl, rfl, .inl ⟨_, rfl, ?_⟩⟩
      refine ⟨_, _, rfl, rfl, ⟨by decide, by decide, hm⟩, _, rfl, _, _, rfl, rfl, by omega, ?_⟩
      -- return
      generalize hM : ((b + 60041 * (c + 1) * (c + 1) + 67) ^ (3 : Int).toNat % q) = M
      have M0 : 0 ≤ M := by rw [← hM]; exact Int.emod_nonneg _ (by omega)
      have M1 : M < q := by rw [← hM]; exact Int.emod_lt_of_pos _ (by omega)
      refine ⟨_, rfl, _, rfl, .inl ⟨_, rfl, _, _, rfl, rfl, by show (0 : Int) < 10007; decide, _, rfl, p, _, 2, _, rfl, rfl, .of g1, atI_nat (j := 2) rfl, _, _, rfl, rfl, .inl ⟨by decide, by decide⟩, _, _, rfl, rfl, _, _, rfl, rfl,
        .inl ⟨by omega, by omega⟩, .inl ⟨_, rfl, _, _, rfl, rfl, by show (0 : Int) < 2305843009213693951; decide, _, _, rfl, rfl, ⟨by decide, by decide⟩, _, rfl, _, _, rfl, rfl, by omega, ?_⟩⟩⟩
      refine k _ (c + 1) _ (Int.emod_nonneg _ hn) (Int.emod_lt_of_pos _ (by omega)) (fun b' o n' e => ?_) ⟨a, b, g1, b0, b1, by omega⟩ (by omega) (by omega)
      have e' := (upd_ne (H := H) (o := .lst [.int a, .int b, .int (c + 1)]) n').trans e
      exact (upd_ne (ne_of_none e' hl)).trans e'
end
end K59
namespace K59
open PySem L2
open PySem.Spec
open PyProof.Rows
open V9
theorem bit_ok (b : Bool) : -(2 ^ 64) < (if b = true then 1 else 0 : Int) ∧ (if b = true then 1 else 0 : Int) < 2 ^ 64 := by cases b <;> decide
theorem join {t : TE} {σ : L2.St} {H : Hp} {Q : VK} (S : V → Hp → Prop) (h : ∀ Q' : VK, (∀ v H', S v H' → Q' v H') → t σ H Q') (hq : ∀ v H', S v H' → Q v H') : t σ H Q := h Q hq
/-- one of some -/
def spOf : Sp := fun vs H Q _ => ∃ (p l : Addr) (c : Int) (xs : List V), vs = [.ref p, .ref l] ∧ Pot H p c ∧ c ≤ 1000000 ∧ p ≠ l ∧ H l = some (.lst xs) ∧ 1 ≤ xs.length ∧ xs.length < 1000 ∧
  ∀ (i : Nat) (v : V) (c' : Int) (H' : Hp), xs[i]? = some v → But p H H' → Pot H' p c' → c ≤ c' → c' ≤ c + 1 → Q v H'
/-- the pot of a cell -/
def spPotOf (K : PySem.W.Frag) : Sp := fun vs H Q _ => ∃ (a : Addr) (ns : List Int) (k : Nat), vs = [.ref a, .int (k : Int)] ∧ SqL K H a (ns.map V.int) ∧ k ≤ 1000 ∧
  ∀ (p : Addr) (H' : Hp), H p = none → Same H H' → Pot H' p 0 → Q (.ref p) H'
section
variable {P : Program} {w : World} {K : PySem.W.Frag} {mg : Str → Option Value} {base : Heap}
theorem scO : FnScope ["_law_pot", "_law_some"] ["_law_pot", "_law_some"] (defScope sOf) :=
  ⟨rfl, rfl, rfl, by decide +kernel, rfl, by decide +kernel, by decide +kernel⟩
theorem ok_of {f fT : Addr} {fd fdT : FuncData} (F : Fun K "_law_of" "_law_of" sOf f fd) (FT : Fun K "_law_take" "_law_take" sTake fT fdT)
    (bT : Binds K fdT ["_law_pot", "_law_upto"] []) (gT : mg "_law_take" = some (.ref fT)) (gI : mg "int" = none) (gL : mg "len" = none) :
    FnOk P w K mg base CX0 2 f fd ["_law_pot", "_law_some"] spOf := by
  have GT : FnOk P w K mg base CX0 1 fT fdT ["_law_pot", "_law_upto"] spTake := ok_take FT gI
  refine F.ok scO (fun vs H Q E h => ?_) (fun cdv A outer s H vs Q E hr h => ?_)
  · obtain ⟨p, l, c, xs, rfl, _⟩ := h
    rfl
  · obtain ⟨p, l, c, xs, rfl, hp, c1, hpl, hl, n1, n2, k⟩ := h
    refine ⟨_, pss_one (ps_ret (pe_ix ix_list (pv 1) (pe_call GT hr rfl gT FT.kp bT .nil pass0
      (pa_cons (pv 0) (pa_cons (pe_callB call_len_seq (by rfl) gL boot_len (pa_cons (pv 1) pa_nil)) pa_nil))) (fun _ _ => rfl))), ?_⟩
    refine ⟨_, rfl, _, rfl, _, rfl, l, xs, rfl, .inl (.of hl), p, _, c, rfl, hp, c1, by omega, by omega, fun d c' H' d0 d1 b hp' h1 h2 => ?_⟩
    obtain ⟨j, rfl⟩ := Int.eq_ofNat_of_zero_le d0
    have hj : j < xs.length := by omega
    exact ⟨l, xs, _, _, rfl, rfl, .of (b _ _ hpl.symm hl), atI_nat (j := j) (List.getElem?_eq_getElem hj), k j _ c' H' (List.getElem?_eq_getElem hj) b hp' h1 h2⟩
theorem scPO : FnScope ["_law_script", "_law_k", "_law_cell", "_law_own"] ["_law_script", "_law_k"] (defScope sPotOf) :=
  ⟨rfl, rfl, rfl, by decide +kernel, rfl, by decide +kernel, by decide +kernel⟩
theorem ok_potof {f : Addr} {fd : FuncData} (F : Fun K "_law_pot_of" "_law_pot_of" sPotOf f fd) (gI : mg "int" = none) (gL : mg "len" = none) (gA : mg "abs" = none) :
    FnOk P w K mg base CX0 1 f fd ["_law_script", "_law_k"] (spPotOf K) := by
  refine F.ok scPO (fun vs H Q E h => ?_) (fun cdv A outer s H vs Q E hr h => ?_)
  · obtain ⟨a, ns, k, rfl, _⟩ := h
    rfl
  · obtain ⟨a, ns, k, rfl, hS, k1, q⟩ := h
    refine ⟨_, pss_cons (ps_set (i := 2) scPO.nd rfl (.inl rfl) (pe_ifExp (pt_cmpR op_lt (pv 1) (pe_callB call_len_seq (by rfl) gL boot_len (pa_cons (pv 0) pa_nil)) (nomark _))
          (pe_ix ix_list (pv 0) (pv 1) (fun _ _ => rfl)) (pe_op op_add (pe_op op_mul pe_int (pv 1)) pe_int)))
      (pss_cons (ps_set (i := 3) scPO.nd rfl (.inl rfl) (pe_op op_mul (pe_op op_mod (pe_callTy call_int1 (by rfl) gI (by decide +kernel) (pa_cons (pe_callB call_abs (by rfl) gA (by decide +kernel) (pa_cons (pv 2) pa_nil)) pa_nil))
          (pe_op op_powW (pe_op op_powW pe_int pe_int) pe_int)) (pe_callTy call_int1 (by rfl) gI (by decide +kernel) (pa_cons (pe_cmpR op_ge (pe_callB call_abs (by rfl) gA (by decide +kernel) (pa_cons (pv 2) pa_nil)) (pe_op op_powW pe_int pe_int) (nomark _)) pa_nil))))
      (pss_one (ps_ret (pe_lst (pa_cons (pv 3) (pa_cons (pe_op op_mod (pe_op op_add (pe_op op_add (pe_op op_mul (pe_op op_mod (pe_callTy call_int1 (by rfl) gI (by decide +kernel) (pa_cons (pv 2) pa_nil)) pe_int) pe_int)
          (pe_op op_mul (pe_op op_mul pe_int (pv 1)) (pv 1))) pe_int) pe_int) (pa_cons pe_int pa_nil))))))), ?_⟩
    refine join (t := tIf _ _ _) (fun v H' => H' = H ∧ ∃ z, v = V.int z) (fun Q' hq => ?_) ?_
    · refine ⟨_, rfl, _, rfl, a, _, rfl, .inl hS, _, _, rfl, rfl, _, rfl, ?_⟩
      rw [List.length_map]
      refine ite2 (fun hk => ?_) (fun _ => ?_)
      · have hk' : k < ns.length := by simpa using hk
        exact ⟨_, rfl, _, rfl, a, _, _, _, rfl, rfl, hS, atI_nat (j := k) (by rw [List.getElem?_map, List.getElem?_eq_getElem hk']; rfl), hq _ _ ⟨rfl, _, rfl⟩⟩
      · exact ⟨_, rfl, _, _, rfl, rfl, .inl ⟨by decide, by decide⟩, _, _, rfl, rfl, hq _ _ ⟨rfl, _, rfl⟩⟩
    rintro v H' ⟨rfl, z, rfl⟩
    refine ⟨_, rfl, _, rfl, .inl ⟨_, rfl, _, _, rfl, rfl, ⟨by decide, by decide +kernel⟩, _, _, rfl, rfl, ⟨by decide, by decide +kernel⟩, _, _, rfl, rfl, (by show (0 : Int) < (10 ^ Int.toNat 60) ^ Int.toNat 5; decide +kernel), ?_⟩⟩
    refine ⟨_, rfl, _, rfl, _, _, rfl, rfl, ⟨by decide, by decide +kernel⟩, _, _, rfl, rfl, .inr ⟨_, rfl, ?_⟩⟩
    refine ⟨_, _, rfl, rfl, .inr (bit_ok _), ?_⟩
    have hk2 : ((k : Int)) ≤ 1000 := by omega
    refine ⟨_, rfl, _, rfl, .inl ⟨_, rfl, _, _, rfl, rfl, by show (0 : Int) < 2305843009213693951; decide, _, _, rfl, rfl, .inr ⟨by decide, by decide⟩, ?_⟩⟩
    refine ⟨_, rfl, _, _, rfl, rfl, .inl ⟨by decide, by decide⟩, _, rfl, _, _, rfl, rfl, .inl ⟨by omega, by omega⟩, _, _, rfl, rfl, _, _, rfl, rfl, _, _, rfl, rfl, by show (0 : Int) < 2305843009213693921; decide, ?_⟩
    refine ⟨by show 3 ≤ sizeLine; decide, fun p hp => ?_⟩
    have h0 : (0 : Int) < 2305843009213693921 := by decide
    refine q p _ hp (fun b o e => ?_) ⟨_, _, upd_same, Int.emod_nonneg _ (by decide), Int.lt_trans (Int.emod_lt_of_pos _ h0) (by decide), by decide⟩
    rw [upd_ne (ne_of_none e hp)]
    exact e
end
end K59
namespace K59
open PySem L2
open PySem.Spec
open PyProof.Rows
open V9
/-- a datum whose text has at most z signs, nested at most n deep -/
structure Fine (d : PyData) (z n : Nat) : Prop where
  sh : d.showable = true
  len : d.shown.length ≤ z
  dep : d.depth ≤ n
theorem Fine.mono {d : PyData} {z n z' n' : Nat} (h : Fine d z n) (a : z ≤ z') (b : n ≤ n') : Fine d z' n' :=
  ⟨h.sh, Nat.le_trans h.len a, Nat.le_trans h.dep b⟩
theorem fine_tup1 {d : PyData} {z n : Nat} (h : Fine d z n) : Fine (.tuple [d]) (z + 3) (n + 1) := by
  refine ⟨by simp [PyData.showable, PyData.showableAll, h.sh], ?_, ?_⟩
  · have e : (PyData.tuple [d]).shown = ("(" : Str) ++ d.shown ++ (",)" : String) := by
      simp only [PyData.shown, PyData.shownAll]; rfl
    rw [e, strLen_append, strLen_append]
    have := h.len
    show 1 + d.shown.length + 2 ≤ z + 3
    omega
  · simp only [PyData.depth, PyData.depthAll]
    have := h.dep
    omega
theorem fine_lst1 {d : PyData} {z n : Nat} (h : Fine d z n) : Fine (.list [d]) (z + 2) (n + 1) := by
  refine ⟨by simp [PyData.showable, PyData.showableAll, h.sh], ?_, ?_⟩
  · have e : (PyData.list [d]).shown = ("[" : Str) ++ ("" : String) ++ d.shown ++ ("]" : String) := by
      simp only [PyData.shown, PyData.shownAll]; rfl
    rw [e, strLen_append, strLen_append, strLen_append]
    have := h.len
    show 1 + 0 + d.shown.length + 1 ≤ z + 2
    omega
  · simp only [PyData.depth, PyData.depthAll]
    have := h.dep
    omega
theorem fine_tup0 {d : PyData} {z n : Nat} (h : Fine d z n) : Fine (.tuple [d, .int 0]) (z + 5) (n + 1) := by
  refine ⟨by simp [PyData.showable, PyData.showableAll, h.sh], ?_, ?_⟩
  · have e : (PyData.tuple [d, .int 0]).shown = ("(" : Str) ++ (d.shown ++ (", " : String) ++ ("0" : String)) ++ (")" : String) := by
      simp only [PyData.shown, PyData.shownAll]; rfl
    rw [e, strLen_append, strLen_append, strLen_append, strLen_append]
    have := h.len
    show 1 + (d.shown.length + 2 + 1) + 1 ≤ z + 5
    omega
  · simp only [PyData.depth, PyData.depthAll]
    have := h.dep
    omega
theorem fine_dic1 {d : PyData} {z n : Nat} (h : Fine d z n) : Fine (.dict [(.str "a", d)]) (z + 7) (n + 1) := by
  refine ⟨by simp [PyData.showable, PyData.showableKv, h.sh], ?_, ?_⟩
  · have e : (PyData.dict [(.str "a", d)]).shown = ("{" : Str) ++ (reprText "a" ++ (": " : String) ++ d.shown) ++ ("}" : String) := by
      simp only [PyData.shown, PyData.shownKv]; rfl
    have e2 : (reprText "a").length = 3 := by decide +kernel
    rw [e, strLen_append, strLen_append, strLen_append, strLen_append, e2]
    have := h.len
    show 1 + (3 + 2 + d.shown.length) + 1 ≤ z + 7
    omega
  · simp only [PyData.depth, PyData.depthKv]
    have := h.dep
    omega
theorem Same.new {H : Hp} {p : Addr} {o : HO} (h : H p = none) : Same H (upd H p o) := fun b u e => by
  rw [upd_ne (ne_of_none e h)]; exact e
theorem But.same {p : Addr} {H H' : Hp} (h : But p H H') : Same (del H p) (del H' p) := fun b o e => by
  by_cases hb : b = p
  · rw [hb, del_same] at e; cases e
  · rw [del_ne hb] at e ⊢
    exact h b o hb e
theorem del_le {H : Hp} {p : Addr} : Same (del H p) H := fun b o e => by
  by_cases hb : b = p
  · rw [hb, del_same] at e; cases e
  · rw [del_ne hb] at e; exact e
/-- the fifteen values -/
def fifteen (t1 l1 d1 t3 t4 : Addr) : List V := [.non, .bl true, .bl false, .int 0, .int 1, .int (-1), .int (10 ^ Int.toNat 11), .str "", .str "a", .str "\n", .ref t1, .ref l1, .ref d1, .ref t3, .ref t4]
def fifteenD : List PyData := [.none, .bool true, .bool false, .int 0, .int 1, .int (-1), .int (10 ^ Int.toNat 11), .str "", .str "a", .str "\n", .tuple [], .list [], .dict [], .tuple [.tuple []], .tuple [.str "still", .int 0]]
def fineB (d : PyData) (z n : Nat) : Bool := d.showable && (decide (d.shown.length ≤ z) && decide (d.depth ≤ n))
theorem fineB_ok {d : PyData} {z n : Nat} (h : fineB d z n = true) : Fine d z n := by
  obtain ⟨a, h⟩ := Bool.and_eq_true_iff.mp h
  obtain ⟨b, c⟩ := Bool.and_eq_true_iff.mp h
  exact ⟨a, of_decide_eq_true b, of_decide_eq_true c⟩
theorem fifteen_fine : fifteenD.all (fun d => fineB d 20 3) = true := by decide +kernel
end K59
namespace K59
open PySem L2
open PySem.Spec
open PyProof.Rows
open V9
def spOdd : Sp := fun vs H Q _ => ∃ (p : Addr) (c : Int), vs = [.ref p] ∧ Pot H p c ∧ c ≤ 900000 ∧
  ∀ (v : V) (d : PyData) (c' : Int) (H' : Hp), But p H H' → Da H' v d → Fine d 400 60 → Pot H' p c' → c' ≤ c + 100 → Q v H'
/-- all of a list of data are fine, off the pot -/
theorem DaAll.at {H : Hp} : ∀ {vs : List V} {ds : List PyData} {i : Nat} {v : V}, DaAll H vs ds → vs[i]? = some v → ∃ d, ds[i]? = some d ∧ Da H v d
  | _, _, _, _, .nil, e => by simp at e
  | _, _, 0, _, .cons h _, e => by
    simp at e; subst e
    exact ⟨_, rfl, h⟩
  | _, _, i + 1, _, .cons _ r, e => by
    obtain ⟨d, h1, h2⟩ := DaAll.at (i := i) r (by simpa using e)
    exact ⟨d, by simpa using h1, h2⟩
theorem Pot.same {H H' : Hp} {p : Addr} {c : Int} (s : Same H H') (h : Pot H p c) : Pot H' p c := by
  obtain ⟨a, b, e, r⟩ := h
  exact ⟨a, b, s _ _ e, r⟩
section
variable {P : Program} {w : World} {K : PySem.W.Frag} {mg : Str → Option Value} {base : Heap}
theorem scOdd : FnScope ["_law_pot", "_law_some", "_law_found", "_law_turn"] ["_law_pot"] (defScope sOdd) :=
  ⟨rfl, rfl, rfl, by decide +kernel, rfl, by decide +kernel, by decide +kernel⟩
theorem ok_odd {f fO : Addr} {fd fdO : FuncData} (F : Fun K "_law_odd" "_law_odd" sOdd f fd) (FO : Fun K "_law_of" "_law_of" sOf fO fdO)
    (GO : FnOk P w K mg base CX0 2 fO fdO ["_law_pot", "_law_some"] spOf) (bO : Binds K fdO ["_law_pot", "_law_some"] [])
    (gO : mg "_law_of" = some (.ref fO)) (gR : mg "range" = none) :
    FnOk P w K mg base CX0 3 f fd ["_law_pot"] spOdd := by
  refine F.ok scOdd (fun vs H Q E h => ?_) (fun cdv A outer s H vs Q E hr h => ?_)
  · obtain ⟨p, c, rfl, _⟩ := h
    rfl
  · obtain ⟨p, c, rfl, hp, c1, k⟩ := h
    refine ⟨_, pss_cons (ps_set (i := 1) scOdd.nd rfl (.inl rfl) (pe_lst (pa_cons pe_non (pa_cons pe_bl (pa_cons pe_bl (pa_cons pe_int (pa_cons pe_int (pa_cons (pe_un un_neg pe_int)
        (pa_cons (pe_op op_powW pe_int pe_int) (pa_cons pe_str (pa_cons pe_str (pa_cons pe_str (pa_cons (pe_tup pa_nil) (pa_cons (pe_lstN pa_nil) (pa_cons pe_dnewK
        (pa_cons (pe_tup (pa_cons (pe_tup pa_nil) pa_nil)) (pa_cons (pe_tup (pa_cons pe_str (pa_cons pe_int pa_nil))) pa_nil)))))))))))))))))
      (pss_cons (ps_set (i := 2) scOdd.nd rfl (.inl rfl) (pe_call GO hr rfl gO FO.kp bO .nil pass0 (pa_cons (pv 0) (pa_cons (pv 1) pa_nil))))
      (pss_cons (ps_for PassesOwn.never rfl (pi_range1 rfl gR (pa_cons (pe_call GO hr rfl gO FO.kp bO .nil pass0 (pa_cons (pv 0)
            (pa_cons (pe_lst (pa_cons pe_int (pa_cons pe_int (pa_cons pe_int (pa_cons pe_int (pa_cons pe_int pa_nil)))))) pa_nil))) pa_nil))
          (pg_name (i := 3) scOdd.nd rfl (.inl rfl))
          (pss_one (ps_set (i := 2) scOdd.nd rfl (.inl rfl) (pe_call GO hr rfl gO FO.kp bO .nil pass0 (pa_cons (pv 0) (pa_cons (pe_lst
            (pa_cons (pe_tup (pa_cons (pv 2) pa_nil)) (pa_cons (pe_lstN (pa_cons (pv 2) pa_nil)) (pa_cons (pe_disp (pps_cons pe_str (pv 2) pps_nil) (by rfl) (by rfl) (fun z => by cases z) (by decide))
              (pa_cons (pe_tup (pa_cons (pv 2) (pa_cons pe_int pa_nil))) pa_nil))))) pa_nil))))))
      (pss_one (ps_ret (pv 2))))), ?_⟩
    -- the fifteen values
    refine ⟨_, rfl, _, _, rfl, rfl, ⟨by decide, by decide +kernel⟩, by show 0 ≤ sizeLine; decide, fun t1 h1 => ⟨by show 0 ≤ sizeLine; decide, fun l1 h2 n2 d1 h3 => ?_⟩⟩
    refine ⟨by show 0 ≤ sizeLine; decide, fun t2 h4 => ⟨by show 1 ≤ sizeLine; decide, fun t3 h5 => ⟨by show 2 ≤ sizeLine; decide, fun t4 h6 => ⟨by show 15 ≤ sizeLine; decide, fun L h7 => ?_⟩⟩⟩⟩
    have s1 := Same.new (o := .tup []) h1
    have s2 := Same.new (o := .lst []) h2
    have s3 := Same.new (o := .dK []) h3
    have s4 := Same.new (o := .tup []) h4
    have s5 := Same.new (o := .tup [V.ref t2]) h5
    have s6 := Same.new (o := .tup [V.str "still", V.int 0]) h6
    have s7 := Same.new (o := .lst (fifteen t1 l1 d1 t3 t4)) h7
    obtain ⟨xs0, ep⟩ := hp.at
    have np : ∀ {q : Addr} {H' : Hp}, Same H H' → H' q = none → q ≠ p := fun {q H'} sm hq e => by
      rw [e, sm p _ ep] at hq; cases hq
    have S2 := s1.trans s2
    have S3 := S2.trans s3
    have S4 := S3.trans s4
    have S5 := S4.trans s5
    have S6 := S5.trans s6
    have S7 := S6.trans s7
    have r7 := s7
    have r6 := s6.trans s7
    have r5 := s5.trans r6
    have r4 := s4.trans r5
    have r3 := s3.trans r4
    have r2 := s2.trans r3
    have D0 : DaAll (del (upd (upd (upd (upd (upd (upd (upd H t1 (.tup [])) l1 (.lst [])) d1 (.dK [])) t2 (.tup [])) t3 (.tup [V.ref t2])) t4 (.tup [V.str "still", V.int 0])) L (.lst (fifteen t1 l1 d1 t3 t4))) p)
        (fifteen t1 l1 d1 t3 t4) fifteenD := by
      have q1 := (del_ne (np (Same.refl H) h1)).trans (r2 _ _ upd_same)
      have q2 := (del_ne (np s1 h2)).trans (r3 _ _ upd_same)
      have q3 := (del_ne (np S2 h3)).trans (r4 _ _ upd_same)
      have q4 := (del_ne (np S3 h4)).trans (r5 _ _ upd_same)
      have q5 := (del_ne (np S4 h5)).trans (r6 _ _ upd_same)
      have q6 := (del_ne (np S5 h6)).trans (r7 _ _ upd_same)
      exact .cons .non (.cons (.bl _) (.cons (.bl _) (.cons (.int _) (.cons (.int _) (.cons (.int _) (.cons (.int _) (.cons (.str _) (.cons (.str _) (.cons (.str _)
        (.cons (.tup q1 .nil) (.cons (.lst q2 n2 .nil) (.cons (.dic0 q3) (.cons (.tup q5 (.cons (.tup q4 .nil) .nil)) (.cons (.tup q6 (.cons (.str _) (.cons (.int _) .nil))) .nil))))))))))))))
    have npL := np S6 h7
    refine ⟨_, rfl, _, rfl, p, L, c, _, rfl, hp.same S7, by omega, npL.symm, upd_same, by show 1 ≤ 15; decide, by show 15 < 1000; decide, fun i v c2 H8 hi hb hp2 e1 e2 => ?_⟩
    obtain ⟨d, hd, da⟩ := DaAll.at D0 hi
    have fd := fineB_ok (List.all_eq_true.mp fifteen_fine d (List.mem_of_getElem? hd))
    have B8 : But p H H8 := (But.of S7).trans hb
    have da8 := da.same hb.same
    -- how often
    refine ⟨_, rfl, by show 5 ≤ sizeLine; decide, fun L2 hL2 => ?_⟩
    obtain ⟨xs2, ep2⟩ := hp2.at
    have t8 := Same.new (o := .lst [.int 0, .int 0, .int 1, .int 2, .int 38]) hL2
    refine ⟨p, L2, c2, _, rfl, hp2.same t8, by omega, ne_of_none ep2 hL2, upd_same, by show 1 ≤ 5; decide, by show 5 < 1000; decide, fun i2 v2 c3 H9 hi2 hb2 hp3 e3 e4 => ?_⟩
    have hm : ∃ m : Int, v2 = .int m ∧ 0 ≤ m ∧ m ≤ 38 := by
      match i2, hi2 with
      | 0, e => exact ⟨0, (Option.some.inj e).symm, by decide, by decide⟩
      | 1, e => exact ⟨0, (Option.some.inj e).symm, by decide, by decide⟩
      | 2, e => exact ⟨1, (Option.some.inj e).symm, by decide, by decide⟩
      | 3, e => exact ⟨2, (Option.some.inj e).symm, by decide, by decide⟩
      | 4, e => exact ⟨38, (Option.some.inj e).symm, by decide, by decide⟩
      | n + 5, e => exact absurd e (by simp)
    obtain ⟨m, rfl, m0, m1⟩ := hm
    have B9 : But p H H9 := (B8.trans (But.of t8)).trans hb2
    have da9 := (da8.same (But.of t8).same).same hb2.same
    refine ⟨m, rfl, by omega, by omega, for_range (lo := 0) (n := m.toNat) (fun i σ H' => ∃ (v : V) (d : PyData) (c' : Int) (tn : Option V), σ = [some (.ref p), some (.ref L), some v, tn] ∧
      But p H H' ∧ Da (del H' p) v d ∧ Fine d (20 + 7 * i) (3 + i) ∧ Pot H' p c' ∧ c' ≤ c + 2 + i) ⟨v, d, c3, none, rfl, B9, da9, fd, hp3, by omega⟩ ?_ ?_⟩
    · rintro i σ H' hi ⟨v, d, c', tn, rfl, B, D, fd, hp', hc'⟩
      have hi38 : (i : Int) < 38 := by omega
      obtain ⟨xs', ep'⟩ := hp'.at
      have np' : ∀ {q : Addr} {G : Hp}, Same H' G → G q = none → q ≠ p := fun {q G} sm hq e => by
        rw [e, sm p _ ep'] at hq; cases hq
      refine ⟨_, rfl, _, rfl, by show 1 ≤ sizeLine; decide, fun ta h1 => ⟨_, rfl, by show 1 ≤ sizeLine; decide, fun la h2 nla db h3 => ⟨_, rfl, upd_same, [(Sum.inr "a", v)], rfl, by show 1 ≤ 15; decide, ?_⟩⟩⟩
      rw [upd_upd]
      refine ⟨_, rfl, by show 2 ≤ sizeLine; decide, fun tb h4 => ⟨by show 4 ≤ sizeLine; decide, fun Lt h5 => ?_⟩⟩
      have u1 := Same.new (o := .tup [v]) h1
      have u2 := Same.new (o := .lst [v]) h2
      have u3 := Same.new (o := .dK (mergeK [] [(Sum.inr "a", v)])) h3
      have u4 := Same.new (o := .tup [v, .int 0]) h4
      have u5 := Same.new (o := .lst [V.ref ta, V.ref la, V.ref db, V.ref tb]) h5
      have U2 := u1.trans u2
      have U3 := U2.trans u3
      have U4 := U3.trans u4
      have U5 := U4.trans u5
      have w5 := u5
      have w4 := u4.trans u5
      have w3 := u3.trans w4
      have w2 := u2.trans w3
      have D' := D.same (But.of U5).same
      have q1 := (del_ne (np' (Same.refl H') h1)).trans (w2 _ _ upd_same)
      have q2 := (del_ne (np' u1 h2)).trans (w3 _ _ upd_same)
      have q3 := (del_ne (np' U2 h3)).trans (w4 _ _ upd_same)
      have q4 := (del_ne (np' U3 h4)).trans (w5 _ _ upd_same)
      have nLt := np' U4 h5
      refine ⟨p, Lt, c', _, rfl, hp'.same U5, by omega, nLt.symm, upd_same, by show 1 ≤ 4; decide, by show 4 < 1000; decide, fun j v' c'' H'' hj hb'' hp'' f1 f2 => ?_⟩
      have B'' : But p H H'' := (B.trans (But.of U5)).trans hb''
      have mk : ∀ d' : PyData, Da _ v' d' → Fine d' (20 + 7 * (i + 1)) (3 + (i + 1)) → _ := fun d' hd' hf' =>
        (⟨v', d', c'', some (.int (0 + i)), rfl, B'', hd'.same hb''.same, hf', hp'', by omega⟩ :
          ∃ (v : V) (d : PyData) (c' : Int) (tn : Option V), [some (V.ref p), some (.ref L), some v', some (.int (0 + (i : Int)))] = [some (.ref p), some (.ref L), some v, tn] ∧
            But p H H'' ∧ Da (del H'' p) v d ∧ Fine d (20 + 7 * (i + 1)) (3 + (i + 1)) ∧ Pot H'' p c' ∧ c' ≤ c + 2 + ((i + 1 : Nat) : Int))
      match j, hj with
      | 0, e =>
        obtain rfl : V.ref ta = v' := Option.some.inj e
        exact mk _ (.tup q1 (.cons D' .nil)) ((fine_tup1 fd).mono (by omega) (by omega))
      | 1, e =>
        obtain rfl : V.ref la = v' := Option.some.inj e
        exact mk _ (.lst q2 nla (.cons D' .nil)) ((fine_lst1 fd).mono (by omega) (by omega))
      | 2, e =>
        obtain rfl : V.ref db = v' := Option.some.inj e
        exact mk _ (.dic1 q3 D') ((fine_dic1 fd).mono (by omega) (by omega))
      | 3, e =>
        obtain rfl : V.ref tb = v' := Option.some.inj e
        exact mk _ (.tup q4 (.cons D' (.cons (.int 0) .nil))) ((fine_tup0 fd).mono (by omega) (by omega))
      | n + 4, e => exact absurd e (by simp)
    · rintro σ H' ⟨v, d, c', tn, rfl, B, D, fd, hp', hc'⟩
      exact ⟨_, rfl, k v d c' H' B (D.same del_le) (fd.mono (by omega) (by omega)) hp' (by omega)⟩
end
end K59
namespace K59
open PySem L2
open PySem.Spec
open PyProof.Rows
open V9
abbrev sInit : Stmt := inClass (top 1) 0
/-- at a: an exception of the class at C that keeps v -/
def ExAt (H : Hp) (C : Addr) (v : V) (a : Addr) : Prop := ∃ dx, H a = some (exo a C (some dx)) ∧ H dx = some (exd dx [("value", v)])
theorem ExAt.same {H H' : Hp} {C a : Addr} {v : V} (e : Same H H') (h : ExAt H C v a) : ExAt H' C v a := by
  obtain ⟨dx, h1, h2⟩ := h
  exact ⟨dx, e _ _ h1, e _ _ h2⟩
def AllEx (H : Hp) (v : V) : List Addr → List Addr → Prop
  | [], [] => True
  | C :: Cs, a :: as => ExAt H C v a ∧ AllEx H v Cs as
  | _, _ => False
theorem AllEx.same {H H' : Hp} {v : V} (e : Same H H') : ∀ {Cs as : List Addr}, AllEx H v Cs as → AllEx H' v Cs as
  | [], [], _ => trivial
  | _ :: _, _ :: _, h => ⟨h.1.same e, AllEx.same e h.2⟩
  | [], _ :: _, h => h.elim
  | _ :: _, [], h => h.elim
theorem AllEx.len {H : Hp} {v : V} : ∀ {Cs as : List Addr}, AllEx H v Cs as → as.length = Cs.length
  | [], [], _ => rfl
  | _ :: _, _ :: _, h => congrArg Nat.succ (AllEx.len h.2)
  | [], _ :: _, h => h.elim
  | _ :: _, [], h => h.elim
theorem AllEx.app {H : Hp} {v : V} : ∀ {Cs as Ds bs : List Addr}, AllEx H v Cs as → AllEx H v Ds bs → AllEx H v (Cs ++ Ds) (as ++ bs)
  | [], [], _, _, _, h => h
  | _ :: _, _ :: _, _, _, h, g => ⟨h.1, AllEx.app h.2 g⟩
  | [], _ :: _, _, _, h, _ => h.elim
  | _ :: _, [], _, _, h, _ => h.elim
theorem AllEx.at {H : Hp} {v : V} : ∀ {Cs as : List Addr} {i : Nat} {a : Addr}, AllEx H v Cs as → as[i]? = some a → ∃ C, Cs[i]? = some C ∧ ExAt H C v a
  | [], [], _, _, _, e => by simp at e
  | C :: _, _ :: _, 0, _, h, e => by
    simp at e; subst e
    exact ⟨C, rfl, h.1⟩
  | _ :: _, _ :: _, i + 1, _, h, e => by
    obtain ⟨C, h1, h2⟩ := AllEx.at (i := i) h.2 (by simpa using e)
    exact ⟨C, by simpa using h1, h2⟩
  | [], _ :: _, _, _, h, _ => h.elim
  | _ :: _, [], _, _, h, _ => h.elim
def spInit (K : PySem.W.Frag) : Sp := fun vs H Q _ => ∃ (a C : Addr) (v : V), vs = [.ref a, v] ∧ H a = some (exo a C none) ∧ OexC K C ∧ PySem.W.findIn K (.ref C) "value" = some none ∧
  ∀ dx, H dx = none → dx ≠ a → Q .non (upd (upd H dx (exd dx [("value", v)])) a (exo a C (some dx)))
/-- what is known of the class x -/
structure XC (K : PySem.W.Frag) (mg : Str → Option Value) (fI : Addr) (x : Str) : Prop where
  gC : mg x = some (.ref (He.ga K x))
  T : OexC K (He.ga K x)
  iC : PySem.W.findIn K (.ref (He.ga K x)) "__init__" = some (some (.ref fI))
  R : OexR K (He.ga K x) "value"
  I : OexI K (He.ga K x)
abbrev row0 : List Str := ["BadBook", "BadContent", "BadCount", "BadCrew"]
abbrev row1 : List Str := ["BadEnd", "BadEvent", "BadFacts", "BadGoal"]
abbrev row2 : List Str := ["BadHouse", "BadLine", "BadLog", "BadMarks"]
abbrev row3 : List Str := ["BadMill", "BadPrices", "BadProgram", "BadQuestion"]
abbrev row4 : List Str := ["BadQuestions", "BadStand", "BadSteps", "BadText"]
abbrev row5 : List Str := ["BadTruth", "BadWay", "BadWork", "BadWorld"]
abbrev row6 : List Str := ["Clash", "Full", "NoFile", "NoMark", "NoStep"]
abbrev row7 : List Str := ["NothingToUndo", "NoTrial", "NotSure"]
abbrev row8 : List Str := ["NotUnderWay", "NoWorld", "TooMany", "UnderWay"]
def names : List Str := row0 ++ (row1 ++ (row2 ++ (row3 ++ (row4 ++ (row5 ++ (row6 ++ (row7 ++ (row8))))))))
/-- what is known of all of them -/
structure XCs (K : PySem.W.Frag) (mg : Str → Option Value) (fI : Addr) : Prop where
  all : ∀ x ∈ names, XC K mg fI x
  tI : PySem.W.typeIn K (.ref fI) = some (.type "function")
theorem XCs.at {K : PySem.W.Frag} {mg : Str → Option Value} {fI : Addr} (T : XCs K mg fI) (x : Str) (h : names.contains x = true) : XC K mg fI x :=
  T.all x (List.contains_iff_mem.mp h)
def cs (K : PySem.W.Frag) (l : List Str) : List Addr := l.map (He.ga K)
def tMks (K : PySem.W.Frag) : List Addr → TA
  | [] => tNil
  | C :: r => tCons (tPeO C (spInit K) (tCons (tVar 0) tNil)) (tMks K r)
theorem mks_read {K : PySem.W.Frag} {v : V} {σ : L2.St} (hv : σ[0]? = some (some v)) : ∀ (Cs : List Addr) (H : Hp) (Q : List V → Hp → Prop),
    (∀ C ∈ Cs, OexC K C ∧ PySem.W.findIn K (.ref C) "value" = some none) →
    (∀ as H', Same H H' → AllEx H' v Cs as → Q (as.map V.ref) H') → tMks K Cs σ H Q
  | [], H, Q, _, q => q [] H (Same.refl H) trivial
  | C :: r, H, Q, hC, q => by
    obtain ⟨c1, c2⟩ := hC C List.mem_cons_self
    refine ⟨v, hv, by show 1 ≤ 1000; decide, fun a ha => ⟨a, C, v, rfl, upd_same, c1, c2, fun dx hd ne => ⟨rfl, ?_⟩⟩⟩
    rw [upd_ne ne] at hd
    have e1 : upd (upd (upd H a (exo a C none)) dx (exd dx [("value", v)])) a (exo a C (some dx)) = upd (upd H dx (exd dx [("value", v)])) a (exo a C (some dx)) := by
      funext b
      by_cases h1 : b = a
      · rw [h1, upd_same, upd_same]
      · rw [upd_ne h1, upd_ne h1]
        by_cases h2 : b = dx
        · rw [h2, upd_same, upd_same]
        · rw [upd_ne h2, upd_ne h2, upd_ne h1]
    rw [e1]
    have s1 : Same H (upd (upd H dx (exd dx [("value", v)])) a (exo a C (some dx))) := fun b o e => by
      rw [upd_ne (ne_of_none e ha), upd_ne (ne_of_none e hd)]
      exact e
    have x1 : ExAt (upd (upd H dx (exd dx [("value", v)])) a (exo a C (some dx))) C v a := ⟨dx, upd_same, by rw [upd_ne ne, upd_same]⟩
    exact mks_read hv r _ _ (fun D hD => hC D (List.mem_cons_of_mem _ hD)) fun as H' s2 x2 => q (a :: as) H' (s1.trans s2) ⟨x1.same s2, x2⟩
/-- found = [..], found = found + [..] -/
theorem first_read {K : PySem.W.Frag} {v : V} {o : Option V} {Cs : List Addr} {H : Hp} {D : Ends} (hC : ∀ C ∈ Cs, OexC K C ∧ PySem.W.findIn K (.ref C) "value" = some none) (hl : Cs.length ≤ 100)
    (q : ∀ l as H', Same H H' → H' l = some (.lst (as.map V.ref)) → AllEx H' v Cs as → D.nx [some v, some (.ref l)] H') :
    tAsg (tLst (tMks K Cs)) (gName 1) D [some v, o] H := by
  refine mks_read (v := v) rfl Cs H _ hC fun as H' s x => ⟨?_, fun p hp => ?_⟩
  · rw [List.length_map, x.len, sizeLine_eq]
    omega
  · have s2 := Same.new (o := .lst (as.map V.ref)) hp
    exact q p as _ (s.trans s2) upd_same (x.same s2)
theorem add_read {K : PySem.W.Frag} {v : V} {l : Addr} {Cs Ds as : List Addr} {H : Hp} {D : Ends} (hl : H l = some (.lst (as.map V.ref))) (hA : AllEx H v Cs as)
    (hC : ∀ C ∈ Ds, OexC K C ∧ PySem.W.findIn K (.ref C) "value" = some none) (hn : Cs.length + Ds.length ≤ 100)
    (q : ∀ l' as' H', Same H H' → H' l' = some (.lst (as'.map V.ref)) → AllEx H' v (Cs ++ Ds) as' → D.nx [some v, some (.ref l')] H') :
    tAsg (tOp rCat (tVar 1) (tLst (tMks K Ds))) (gName 1) D [some v, some (.ref l)] H := by
  refine ⟨_, rfl, mks_read (v := v) rfl Ds H _ hC fun bs H' s x => ⟨?_, fun p hp => ?_⟩⟩
  · rw [List.length_map, x.len, sizeLine_eq]
    omega
  · have s2 := Same.new (o := .lst (bs.map V.ref)) hp
    refine ⟨l, p, as.map V.ref, bs.map V.ref, rfl, rfl, s2 _ _ (s _ _ hl), upd_same, ?_, fun r hr => ?_⟩
    · rw [List.length_map, List.length_map, x.len, hA.len, sizeLine_eq]
      omega
    · have s3 := Same.new (o := .lst (as.map V.ref ++ bs.map V.ref)) hr
      have S := (s.trans s2).trans s3
      refine q r (as ++ bs) _ S (by rw [List.map_append]; exact upd_same) ((hA.same S).app ((x.same s2).same s3))
def spMade (K : PySem.W.Frag) : Sp := fun vs H Q _ => ∃ v, vs = [v] ∧ ∀ l as H', Same H H' → H' l = some (.lst (as.map V.ref)) → AllEx H' v (cs K names) as → Q (.ref l) H'
section
variable {P : Program} {w : World} {K : PySem.W.Frag} {mg : Str → Option Value} {base : Heap}
theorem scI : FnScope ["self", "value"] ["self", "value"] (defScope sInit) := ⟨rfl, rfl, rfl, by decide +kernel, rfl, by decide +kernel, by decide +kernel⟩
theorem ok_init {f : Addr} {fd : FuncData} (F : Fun K "__init__" "StepError.__init__" sInit f fd) : FnOk P w K mg base CX0 1 f fd ["self", "value"] (spInit K) := by
  refine F.ok scI (fun vs H Q E h => ?_) (fun cdv A outer s H vs Q E hr h => ?_)
  · obtain ⟨a, C, v, rfl, _⟩ := h
    rfl
  · obtain ⟨a, C, v, rfl, ha, T, hno, k⟩ := h
    exact ⟨_, pss_one (ps_ost (pv 0) (pv 1)), _, rfl, _, rfl, a, C, rfl, T, hno, .inl ⟨ha, k⟩⟩
theorem scM : FnScope ["_law_thing", "_law_found"] ["_law_thing"] (defScope sMade) := ⟨rfl, rfl, rfl, by decide +kernel, rfl, by decide +kernel, by decide +kernel⟩
theorem XCs.row {fI : Addr} (T : XCs K mg fI) (l : List Str) (h : (l.all fun x => names.contains x) = true) : ∀ C ∈ cs K l, OexC K C ∧ PySem.W.findIn K (.ref C) "value" = some none := fun C hC => by
  obtain ⟨x, hx, rfl⟩ := List.mem_map.mp hC
  have t := T.at x (List.all_eq_true.mp h x hx)
  exact ⟨t.T, t.R.no⟩
theorem cs_app (a b : List Str) : cs K a ++ cs K b = cs K (a ++ b) := by
  unfold cs
  rw [List.map_append]
theorem ok_made {f fI : Addr} {fd fdI : FuncData} (F : Fun K "_law_made" "_law_made" sMade f fd) (T : XCs K mg fI)
    (GI : FnOk P w K mg base CX0 1 fI fdI ["self", "value"] (spInit K)) (bI : Binds K fdI ["self", "value"] []) :
    FnOk P w K mg base CX0 3 f fd ["_law_thing"] (spMade K) := by
  refine F.ok scM (fun vs H Q E h => ?_) (fun cdv A outer s H vs Q E hr h => ?_)
  · obtain ⟨v, rfl, _⟩ := h
    rfl
  · obtain ⟨v, rfl, k⟩ := h
    refine ⟨_, (pss_cons (ps_set (i := 1) scM.nd rfl (.inl rfl) (pe_lst (t := tMks K (cs K row0)) (pa_cons (pe_oex (T.at "BadBook" (by decide +kernel)).T (T.at "BadBook" (by decide +kernel)).iC T.tI GI hr bI pass0 rfl (T.at "BadBook" (by decide +kernel)).gC (pa_cons (pv 0) pa_nil)) (pa_cons (pe_oex (T.at "BadContent" (by decide +kernel)).T (T.at "BadContent" (by decide +kernel)).iC T.tI GI hr bI pass0 rfl (T.at "BadContent" (by decide +kernel)).gC (pa_cons (pv 0) pa_nil)) (pa_cons (pe_oex (T.at "BadCount" (by decide +kernel)).T (T.at "BadCount" (by decide +kernel)).iC T.tI GI hr bI pass0 rfl (T.at "BadCount" (by decide +kernel)).gC (pa_cons (pv 0) pa_nil)) (pa_cons (pe_oex (T.at "BadCrew" (by decide +kernel)).T (T.at "BadCrew" (by decide +kernel)).iC T.tI GI hr bI pass0 rfl (T.at "BadCrew" (by decide +kernel)).gC (pa_cons (pv 0) pa_nil)) pa_nil))))))
      (pss_cons (ps_set (i := 1) scM.nd rfl (.inl rfl) (pe_op op_cat (pv 1) (pe_lst (t := tMks K (cs K row1)) (pa_cons (pe_oex (T.at "BadEnd" (by decide +kernel)).T (T.at "BadEnd" (by decide +kernel)).iC T.tI GI hr bI pass0 rfl (T.at "BadEnd" (by decide +kernel)).gC (pa_cons (pv 0) pa_nil)) (pa_cons (pe_oex (T.at "BadEvent" (by decide +kernel)).T (T.at "BadEvent" (by decide +kernel)).iC T.tI GI hr bI pass0 rfl (T.at "BadEvent" (by decide +kernel)).gC (pa_cons (pv 0) pa_nil)) (pa_cons (pe_oex (T.at "BadFacts" (by decide +kernel)).T (T.at "BadFacts" (by decide +kernel)).iC T.tI GI hr bI pass0 rfl (T.at "BadFacts" (by decide +kernel)).gC (pa_cons (pv 0) pa_nil)) (pa_cons (pe_oex (T.at "BadGoal" (by decide +kernel)).T (T.at "BadGoal" (by decide +kernel)).iC T.tI GI hr bI pass0 rfl (T.at "BadGoal" (by decide +kernel)).gC (pa_cons (pv 0) pa_nil)) pa_nil)))))))
      (pss_cons (ps_set (i := 1) scM.nd rfl (.inl rfl) (pe_op op_cat (pv 1) (pe_lst (t := tMks K (cs K row2)) (pa_cons (pe_oex (T.at "BadHouse" (by decide +kernel)).T (T.at "BadHouse" (by decide +kernel)).iC T.tI GI hr bI pass0 rfl (T.at "BadHouse" (by decide +kernel)).gC (pa_cons (pv 0) pa_nil)) (pa_cons (pe_oex (T.at "BadLine" (by decide +kernel)).T (T.at "BadLine" (by decide +kernel)).iC T.tI GI hr bI pass0 rfl (T.at "BadLine" (by decide +kernel)).gC (pa_cons (pv 0) pa_nil)) (pa_cons (pe_oex (T.at "BadLog" (by decide +kernel)).T (T.at "BadLog" (by decide +kernel)).iC T.tI GI hr bI pass0 rfl (T.at "BadLog" (by decide +kernel)).gC (pa_cons (pv 0) pa_nil)) (pa_cons (pe_oex (T.at "BadMarks" (by decide +kernel)).T (T.at "BadMarks" (by decide +kernel)).iC T.tI GI hr bI pass0 rfl (T.at "BadMarks" (by decide +kernel)).gC (pa_cons (pv 0) pa_nil)) pa_nil)))))))
      (pss_cons (ps_set (i := 1) scM.nd rfl (.inl rfl) (pe_op op_cat (pv 1) (pe_lst (t := tMks K (cs K row3)) (pa_cons (pe_oex (T.at "BadMill" (by decide +kernel)).T (T.at "BadMill" (by decide +kernel)).iC T.tI GI hr bI pass0 rfl (T.at "BadMill" (by decide +kernel)).gC (pa_cons (pv 0) pa_nil)) (pa_cons (pe_oex (T.at "BadPrices" (by decide +kernel)).T (T.at "BadPrices" (by decide +kernel)).iC T.tI GI hr bI pass0 rfl (T.at "BadPrices" (by decide +kernel)).gC (pa_cons (pv 0) pa_nil)) (pa_cons (pe_oex (T.at "BadProgram" (by decide +kernel)).T (T.at "BadProgram" (by decide +kernel)).iC T.tI GI hr bI pass0 rfl (T.at "BadProgram" (by decide +kernel)).gC (pa_cons (pv 0) pa_nil)) (pa_cons (pe_oex (T.at "BadQuestion" (by decide +kernel)).T (T.at "BadQuestion" (by decide +kernel)).iC T.tI GI hr bI pass0 rfl (T.at "BadQuestion" (by decide +kernel)).gC (pa_cons (pv 0) pa_nil)) pa_nil)))))))
      (pss_cons (ps_set (i := 1) scM.nd rfl (.inl rfl) (pe_op op_cat (pv 1) (pe_lst (t := tMks K (cs K row4)) (pa_cons (pe_oex (T.at "BadQuestions" (by decide +kernel)).T (T.at "BadQuestions" (by decide +kernel)).iC T.tI GI hr bI pass0 rfl (T.at "BadQuestions" (by decide +kernel)).gC (pa_cons (pv 0) pa_nil)) (pa_cons (pe_oex (T.at "BadStand" (by decide +kernel)).T (T.at "BadStand" (by decide +kernel)).iC T.tI GI hr bI pass0 rfl (T.at "BadStand" (by decide +kernel)).gC (pa_cons (pv 0) pa_nil)) (pa_cons (pe_oex (T.at "BadSteps" (by decide +kernel)).T (T.at "BadSteps" (by decide +kernel)).iC T.tI GI hr bI pass0 rfl (T.at "BadSteps" (by decide +kernel)).gC (pa_cons (pv 0) pa_nil)) (pa_cons (pe_oex (T.at "BadText" (by decide +kernel)).T (T.at "BadText" (by decide +kernel)).iC T.tI GI hr bI pass0 rfl (T.at "BadText" (by decide +kernel)).gC (pa_cons (pv 0) pa_nil)) pa_nil)))))))
      (pss_cons (ps_set (i := 1) scM.nd rfl (.inl rfl) (pe_op op_cat (pv 1) (pe_lst (t := tMks K (cs K row5)) (pa_cons (pe_oex (T.at "BadTruth" (by decide +kernel)).T (T.at "BadTruth" (by decide +kernel)).iC T.tI GI hr bI pass0 rfl (T.at "BadTruth" (by decide +kernel)).gC (pa_cons (pv 0) pa_nil)) (pa_cons (pe_oex (T.at "BadWay" (by decide +kernel)).T (T.at "BadWay" (by decide +kernel)).iC T.tI GI hr bI pass0 rfl (T.at "BadWay" (by decide +kernel)).gC (pa_cons (pv 0) pa_nil)) (pa_cons (pe_oex (T.at "BadWork" (by decide +kernel)).T (T.at "BadWork" (by decide +kernel)).iC T.tI GI hr bI pass0 rfl (T.at "BadWork" (by decide +kernel)).gC (pa_cons (pv 0) pa_nil)) (pa_cons (pe_oex (T.at "BadWorld" (by decide +kernel)).T (T.at "BadWorld" (by decide +kernel)).iC T.tI GI hr bI pass0 rfl (T.at "BadWorld" (by decide +kernel)).gC (pa_cons (pv 0) pa_nil)) pa_nil)))))))
      (pss_cons (ps_set (i := 1) scM.nd rfl (.inl rfl) (pe_op op_cat (pv 1) (pe_lst (t := tMks K (cs K row6)) (pa_cons (pe_oex (T.at "Clash" (by decide +kernel)).T (T.at "Clash" (by decide +kernel)).iC T.tI GI hr bI pass0 rfl (T.at "Clash" (by decide +kernel)).gC (pa_cons (pv 0) pa_nil)) (pa_cons (pe_oex (T.at "Full" (by decide +kernel)).T (T.at "Full" (by decide +kernel)).iC T.tI GI hr bI pass0 rfl (T.at "Full" (by decide +kernel)).gC (pa_cons (pv 0) pa_nil)) (pa_cons (pe_oex (T.at "NoFile" (by decide +kernel)).T (T.at "NoFile" (by decide +kernel)).iC T.tI GI hr bI pass0 rfl (T.at "NoFile" (by decide +kernel)).gC (pa_cons (pv 0) pa_nil)) (pa_cons (pe_oex (T.at "NoMark" (by decide +kernel)).T (T.at "NoMark" (by decide +kernel)).iC T.tI GI hr bI pass0 rfl (T.at "NoMark" (by decide +kernel)).gC (pa_cons (pv 0) pa_nil)) (pa_cons (pe_oex (T.at "NoStep" (by decide +kernel)).T (T.at "NoStep" (by decide +kernel)).iC T.tI GI hr bI pass0 rfl (T.at "NoStep" (by decide +kernel)).gC (pa_cons (pv 0) pa_nil)) pa_nil))))))))
      (pss_cons (ps_set (i := 1) scM.nd rfl (.inl rfl) (pe_op op_cat (pv 1) (pe_lst (t := tMks K (cs K row7)) (pa_cons (pe_oex (T.at "NothingToUndo" (by decide +kernel)).T (T.at "NothingToUndo" (by decide +kernel)).iC T.tI GI hr bI pass0 rfl (T.at "NothingToUndo" (by decide +kernel)).gC (pa_cons (pv 0) pa_nil)) (pa_cons (pe_oex (T.at "NoTrial" (by decide +kernel)).T (T.at "NoTrial" (by decide +kernel)).iC T.tI GI hr bI pass0 rfl (T.at "NoTrial" (by decide +kernel)).gC (pa_cons (pv 0) pa_nil)) (pa_cons (pe_oex (T.at "NotSure" (by decide +kernel)).T (T.at "NotSure" (by decide +kernel)).iC T.tI GI hr bI pass0 rfl (T.at "NotSure" (by decide +kernel)).gC (pa_cons (pv 0) pa_nil)) pa_nil))))))
      (pss_cons (ps_set (i := 1) scM.nd rfl (.inl rfl) (pe_op op_cat (pv 1) (pe_lst (t := tMks K (cs K row8)) (pa_cons (pe_oex (T.at "NotUnderWay" (by decide +kernel)).T (T.at "NotUnderWay" (by decide +kernel)).iC T.tI GI hr bI pass0 rfl (T.at "NotUnderWay" (by decide +kernel)).gC (pa_cons (pv 0) pa_nil)) (pa_cons (pe_oex (T.at "NoWorld" (by decide +kernel)).T (T.at "NoWorld" (by decide +kernel)).iC T.tI GI hr bI pass0 rfl (T.at "NoWorld" (by decide +kernel)).gC (pa_cons (pv 0) pa_nil)) (pa_cons (pe_oex (T.at "TooMany" (by decide +kernel)).T (T.at "TooMany" (by decide +kernel)).iC T.tI GI hr bI pass0 rfl (T.at "TooMany" (by decide +kernel)).gC (pa_cons (pv 0) pa_nil)) (pa_cons (pe_oex (T.at "UnderWay" (by decide +kernel)).T (T.at "UnderWay" (by decide +kernel)).iC T.tI GI hr bI pass0 rfl (T.at "UnderWay" (by decide +kernel)).gC (pa_cons (pv 0) pa_nil)) pa_nil)))))))
      (pss_one (ps_ret (pv 1)))))))))))), ?_⟩
    refine first_read (T.row row0 (by decide +kernel)) (by simp [cs]) fun l0 as0 H0 s0 e0 x0 => ?_
    refine add_read e0 x0 (T.row row1 (by decide +kernel)) (by simp [cs]) fun l1 as1 H1 s1 e1 x1 => ?_
    refine add_read e1 x1 (T.row row2 (by decide +kernel)) (by simp [cs]) fun l2 as2 H2 s2 e2 x2 => ?_
    refine add_read e2 x2 (T.row row3 (by decide +kernel)) (by simp [cs]) fun l3 as3 H3 s3 e3 x3 => ?_
    refine add_read e3 x3 (T.row row4 (by decide +kernel)) (by simp [cs]) fun l4 as4 H4 s4 e4 x4 => ?_
    refine add_read e4 x4 (T.row row5 (by decide +kernel)) (by simp [cs]) fun l5 as5 H5 s5 e5 x5 => ?_
    refine add_read e5 x5 (T.row row6 (by decide +kernel)) (by simp [cs]) fun l6 as6 H6 s6 e6 x6 => ?_
    refine add_read e6 x6 (T.row row7 (by decide +kernel)) (by simp [cs]) fun l7 as7 H7 s7 e7 x7 => ?_
    refine add_read e7 x7 (T.row row8 (by decide +kernel)) (by simp [cs]) fun l8 as8 H8 s8 e8 x8 => ?_
    refine ⟨_, rfl, k l8 as8 H8 ((((((((s0.trans s1).trans s2).trans s3).trans s4).trans s5).trans s6).trans s7).trans s8) e8 ?_⟩
    simp only [cs_app, List.append_assoc] at x8
    exact x8
end
end K59
namespace K59
open PySem L2
open PySem.Spec
open PyProof.Rows
open V9
abbrev srow0 : List Str := ["BadBook", "BadContent"]
abbrev srow1 : List Str := ["BadCount", "BadCrew"]
abbrev srow2 : List Str := ["BadEnd", "BadEvent"]
abbrev srow3 : List Str := ["BadFacts", "BadGoal"]
abbrev srow4 : List Str := ["BadHouse", "BadLine"]
abbrev srow5 : List Str := ["BadLog", "BadMarks"]
abbrev srow6 : List Str := ["BadMill", "BadPrices"]
abbrev srow7 : List Str := ["BadProgram", "BadQuestion"]
abbrev srow8 : List Str := ["BadQuestions", "BadStand"]
abbrev srow9 : List Str := ["BadSteps", "BadText"]
abbrev srow10 : List Str := ["BadTruth", "BadWay"]
abbrev srow11 : List Str := ["BadWork", "BadWorld"]
abbrev srow12 : List Str := ["Clash", "Full", "NoFile"]
abbrev srow13 : List Str := ["NoMark", "NoStep"]
abbrev srow14 : List Str := ["NothingToUndo", "NoTrial"]
abbrev srow15 : List Str := ["NotSure", "NotUnderWay"]
abbrev srow16 : List Str := ["NoWorld", "TooMany"]
abbrev srow17 : List Str := ["UnderWay"]
/-- what isinstance says of all of them -/
structure KCs (K : PySem.W.Frag) : Prop where
  kit : ∀ x ∈ names, ∀ y ∈ names, PySem.W.kitOne K (.ref (He.ga K x)) (.ref (He.ga K y)) = some (decide (He.ga K x = He.ga K y))
  kitS : ∀ x ∈ names, PySem.W.kitOne K (.ref (He.ga K x)) (.ref (He.ga K "StepError")) = some true
  kitV : ∀ x ∈ names, PySem.W.kitOne K (.ref (He.ga K x)) (.type "ValueError") = some true
  nd : (cs K names).Nodup
def tIss (K : PySem.W.Frag) : List Addr → TA
  | [] => tNil
  | D :: r => tCons (tCB (rIsX K) (tCons (tVar 0) (tCons (tC (.ref D)) tNil))) (tIss K r)
def hot (C : Addr) (Ds : List Addr) : List V := Ds.map fun D => V.bl (decide (C = D))
theorem iss_read {K : PySem.W.Frag} {v : V} {a C : Addr} {σ : L2.St} {H : Hp} (hv : σ[0]? = some (some (.ref a))) (hx : ExAt H C v a) (hI : OexI K C) : ∀ (Ds : List Addr) (Q : List V → Hp → Prop),
    (∀ D ∈ Ds, PySem.W.kitOne K (.ref C) (.ref D) = some (decide (C = D))) → Q (hot C Ds) H → tIss K Ds σ H Q
  | [], Q, _, q => q
  | D :: r, Q, hC, q => by
    obtain ⟨dx, e1, e2⟩ := id hx
    refine ⟨_, hv, a, C, dx, _, "value", v, .ref D, _, _, rfl, e1, e2, rfl, hI, .own D, hC D List.mem_cons_self, ?_⟩
    exact iss_read hv hx hI r _ (fun D' h => hC D' (List.mem_cons_of_mem _ h)) q
theorem firstS {K : PySem.W.Frag} {v : V} {o : Option V} {a C : Addr} {Ds : List Addr} {H : Hp} {D : Ends} (hx : ExAt H C v a) (hI : OexI K C)
    (hC : ∀ D ∈ Ds, PySem.W.kitOne K (.ref C) (.ref D) = some (decide (C = D))) (hl : Ds.length ≤ 100)
    (q : ∀ l H', Same H H' → H' l = some (.lst (hot C Ds)) → D.nx [some (.ref a), some (.ref l)] H') :
    tAsg (tLst (tIss K Ds)) (gName 1) D [some (.ref a), o] H := by
  refine iss_read (v := v) rfl hx hI Ds _ hC ⟨?_, fun p hp => q p _ (Same.new hp) upd_same⟩
  rw [hot, List.length_map, sizeLine_eq]
  omega
theorem addS {K : PySem.W.Frag} {v : V} {l a C : Addr} {Cs Ds : List Addr} {H : Hp} {D : Ends} (hx : ExAt H C v a) (hI : OexI K C) (hl : H l = some (.lst (hot C Cs)))
    (hC : ∀ D ∈ Ds, PySem.W.kitOne K (.ref C) (.ref D) = some (decide (C = D))) (hn : Cs.length + Ds.length ≤ 100)
    (q : ∀ l' H', Same H H' → H' l' = some (.lst (hot C (Cs ++ Ds))) → D.nx [some (.ref a), some (.ref l')] H') :
    tAsg (tOp rCat (tVar 1) (tLst (tIss K Ds))) (gName 1) D [some (.ref a), some (.ref l)] H := by
  refine ⟨_, rfl, iss_read (v := v) rfl hx hI Ds _ hC ⟨?_, fun p hp => ?_⟩⟩
  · rw [hot, List.length_map, sizeLine_eq]
    omega
  · have s2 := Same.new (o := .lst (hot C Ds)) hp
    refine ⟨l, p, _, _, rfl, rfl, s2 _ _ hl, upd_same, ?_, fun r hr => ?_⟩
    · rw [hot, hot, List.length_map, List.length_map, sizeLine_eq]
      omega
    · have s3 := Same.new (o := .lst (hot C Cs ++ hot C Ds)) hr
      exact q r _ (s2.trans s3) (by unfold hot; rw [List.map_append]; exact upd_same)
def spSorts (K : PySem.W.Frag) : Sp := fun vs H Q _ => ∃ (a : Addr) (x : Str) (v : V), vs = [.ref a] ∧ x ∈ names ∧ ExAt H (He.ga K x) v a ∧
  ∀ l H', Same H H' → H' l = some (.lst (hot (He.ga K x) (cs K names))) → Q (.ref l) H'
/-- the bits of which the i-th is one -/
def bits (i n : Nat) : List V := (List.range n).map fun k => V.bl (decide (i = k))
def bitsD (i n : Nat) : List PyData := (List.range n).map fun k => PyData.bool (decide (i = k))
theorem hot_bits {Cs : List Addr} (nd : Cs.Nodup) {i : Nat} {C : Addr} (h : Cs[i]? = some C) : hot C Cs = bits i Cs.length := by
  unfold hot bits
  apply List.ext_getElem?
  intro j
  rw [List.getElem?_map, List.getElem?_map]
  by_cases hj : j < Cs.length
  · rw [List.getElem?_range hj]
    have e : Cs[j]? = some Cs[j] := List.getElem?_eq_getElem hj
    rw [e]
    have hi : i < Cs.length := (List.getElem?_eq_some_iff.mp h).1
    have e2 : C = Cs[i] := (List.getElem?_eq_some_iff.mp h).2.symm
    have : (C = Cs[j]) ↔ (i = j) := by
      rw [e2]
      exact ⟨fun z => (List.getElem_inj nd).mp z, fun z => by subst z; rfl⟩
    simp only [Option.map_some, this]
  · rw [List.getElem?_eq_none (by omega), List.getElem?_eq_none (by rw [List.length_range]; omega)]
    rfl
theorem dp_bools {K : PySem.W.Frag} {H : Hp} {α : Type} (f : α → Bool) : ∀ l : List α, DpAll K H (l.map fun k => V.bl (f k)) (l.map fun k => PyData.bool (f k))
  | [] => .nil
  | a :: r => .cons (.bl _) (dp_bools f r)
theorem bits_shaped (i : Nat) : SeqAt.shaped (.list (bitsD i 36)) = true := by
  have h : ∀ f : Nat → Bool, SeqAt.shaped (.list ((List.range 36).map fun k => PyData.bool (f k))) = true := fun f => by
    simp [SeqAt.shaped, List.range, List.range.loop, PyData.canLay0, PyData.canLayAll0, PyData.depth, PyData.depthAll]
  exact h _
section
variable {P : Program} {w : World} {K : PySem.W.Frag} {mg : Str → Option Value} {base : Heap}
theorem scS : FnScope ["_law_one", "_law_found"] ["_law_one"] (defScope sSorts) := ⟨rfl, rfl, rfl, by decide +kernel, rfl, by decide +kernel, by decide +kernel⟩
theorem KCs.row (Y : KCs K) {x : Str} (hx : x ∈ names) (l : List Str) (h : (l.all fun x => names.contains x) = true) :
    ∀ D ∈ cs K l, PySem.W.kitOne K (.ref (He.ga K x)) (.ref D) = some (decide (He.ga K x = D)) := fun D hD => by
  obtain ⟨y, hy, rfl⟩ := List.mem_map.mp hD
  exact Y.kit x hx y (List.contains_iff_mem.mp (List.all_eq_true.mp h y hy))
theorem ok_sorts {f fI : Addr} {fd : FuncData} (F : Fun K "_law_sorts" "_law_sorts" sSorts f fd) (T : XCs K mg fI) (Y : KCs K) (gIs : mg "isinstance" = none) :
    FnOk P w K mg base CX0 1 f fd ["_law_one"] (spSorts K) := by
  refine F.ok scS (fun vs H Q E h => ?_) (fun cdv A outer s H vs Q E hr h => ?_)
  · obtain ⟨a, x, v, rfl, _⟩ := h
    rfl
  · obtain ⟨a, x, v, rfl, hx, xa, k⟩ := h
    have hI := (T.all x hx).I
    refine ⟨_, (pss_cons (ps_set (i := 1) scS.nd rfl (.inl rfl) (pe_lst (t := tIss K (cs K srow0)) (pa_cons (pe_callB call_isX (by rfl) gIs PyProof.Rows.boot_isinstance (pa_cons (pv 0) (pa_cons (pe_glob (v := .ref (He.ga K "BadBook")) rfl (T.at "BadBook" (by decide +kernel)).gC rfl) pa_nil))) (pa_cons (pe_callB call_isX (by rfl) gIs PyProof.Rows.boot_isinstance (pa_cons (pv 0) (pa_cons (pe_glob (v := .ref (He.ga K "BadContent")) rfl (T.at "BadContent" (by decide +kernel)).gC rfl) pa_nil))) pa_nil))))
      (pss_cons (ps_set (i := 1) scS.nd rfl (.inl rfl) (pe_op op_cat (pv 1) (pe_lst (t := tIss K (cs K srow1)) (pa_cons (pe_callB call_isX (by rfl) gIs PyProof.Rows.boot_isinstance (pa_cons (pv 0) (pa_cons (pe_glob (v := .ref (He.ga K "BadCount")) rfl (T.at "BadCount" (by decide +kernel)).gC rfl) pa_nil))) (pa_cons (pe_callB call_isX (by rfl) gIs PyProof.Rows.boot_isinstance (pa_cons (pv 0) (pa_cons (pe_glob (v := .ref (He.ga K "BadCrew")) rfl (T.at "BadCrew" (by decide +kernel)).gC rfl) pa_nil))) pa_nil)))))
      (pss_cons (ps_set (i := 1) scS.nd rfl (.inl rfl) (pe_op op_cat (pv 1) (pe_lst (t := tIss K (cs K srow2)) (pa_cons (pe_callB call_isX (by rfl) gIs PyProof.Rows.boot_isinstance (pa_cons (pv 0) (pa_cons (pe_glob (v := .ref (He.ga K "BadEnd")) rfl (T.at "BadEnd" (by decide +kernel)).gC rfl) pa_nil))) (pa_cons (pe_callB call_isX (by rfl) gIs PyProof.Rows.boot_isinstance (pa_cons (pv 0) (pa_cons (pe_glob (v := .ref (He.ga K "BadEvent")) rfl (T.at "BadEvent" (by decide +kernel)).gC rfl) pa_nil))) pa_nil)))))
      (pss_cons (ps_set (i := 1) scS.nd rfl (.inl rfl) (pe_op op_cat (pv 1) (pe_lst (t := tIss K (cs K srow3)) (pa_cons (pe_callB call_isX (by rfl) gIs PyProof.Rows.boot_isinstance (pa_cons (pv 0) (pa_cons (pe_glob (v := .ref (He.ga K "BadFacts")) rfl (T.at "BadFacts" (by decide +kernel)).gC rfl) pa_nil))) (pa_cons (pe_callB call_isX (by rfl) gIs PyProof.Rows.boot_isinstance (pa_cons (pv 0) (pa_cons (pe_glob (v := .ref (He.ga K "BadGoal")) rfl (T.at "BadGoal" (by decide +kernel)).gC rfl) pa_nil))) pa_nil)))))
      (pss_cons (ps_set (i := 1) scS.nd rfl (.inl rfl) (pe_op op_cat (pv 1) (pe_lst (t := tIss K (cs K srow4)) (pa_cons (pe_callB call_isX (by rfl) gIs PyProof.Rows.boot_isinstance (pa_cons (pv 0) (pa_cons (pe_glob (v := .ref (He.ga K "BadHouse")) rfl (T.at "BadHouse" (by decide +kernel)).gC rfl) pa_nil))) (pa_cons (pe_callB call_isX (by rfl) gIs PyProof.Rows.boot_isinstance (pa_cons (pv 0) (pa_cons (pe_glob (v := .ref (He.ga K "BadLine")) rfl (T.at "BadLine" (by decide +kernel)).gC rfl) pa_nil))) pa_nil)))))
      (pss_cons (ps_set (i := 1) scS.nd rfl (.inl rfl) (pe_op op_cat (pv 1) (pe_lst (t := tIss K (cs K srow5)) (pa_cons (pe_callB call_isX (by rfl) gIs PyProof.Rows.boot_isinstance (pa_cons (pv 0) (pa_cons (pe_glob (v := .ref (He.ga K "BadLog")) rfl (T.at "BadLog" (by decide +kernel)).gC rfl) pa_nil))) (pa_cons (pe_callB call_isX (by rfl) gIs PyProof.Rows.boot_isinstance (pa_cons (pv 0) (pa_cons (pe_glob (v := .ref (He.ga K "BadMarks")) rfl (T.at "BadMarks" (by decide +kernel)).gC rfl) pa_nil))) pa_nil)))))
      (pss_cons (ps_set (i := 1) scS.nd rfl (.inl rfl) (pe_op op_cat (pv 1) (pe_lst (t := tIss K (cs K srow6)) (pa_cons (pe_callB call_isX (by rfl) gIs PyProof.Rows.boot_isinstance (pa_cons (pv 0) (pa_cons (pe_glob (v := .ref (He.ga K "BadMill")) rfl (T.at "BadMill" (by decide +kernel)).gC rfl) pa_nil))) (pa_cons (pe_callB call_isX (by rfl) gIs PyProof.Rows.boot_isinstance (pa_cons (pv 0) (pa_cons (pe_glob (v := .ref (He.ga K "BadPrices")) rfl (T.at "BadPrices" (by decide +kernel)).gC rfl) pa_nil))) pa_nil)))))
      (pss_cons (ps_set (i := 1) scS.nd rfl (.inl rfl) (pe_op op_cat (pv 1) (pe_lst (t := tIss K (cs K srow7)) (pa_cons (pe_callB call_isX (by rfl) gIs PyProof.Rows.boot_isinstance (pa_cons (pv 0) (pa_cons (pe_glob (v := .ref (He.ga K "BadProgram")) rfl (T.at "BadProgram" (by decide +kernel)).gC rfl) pa_nil))) (pa_cons (pe_callB call_isX (by rfl) gIs PyProof.Rows.boot_isinstance (pa_cons (pv 0) (pa_cons (pe_glob (v := .ref (He.ga K "BadQuestion")) rfl (T.at "BadQuestion" (by decide +kernel)).gC rfl) pa_nil))) pa_nil)))))
      (pss_cons (ps_set (i := 1) scS.nd rfl (.inl rfl) (pe_op op_cat (pv 1) (pe_lst (t := tIss K (cs K srow8)) (pa_cons (pe_callB call_isX (by rfl) gIs PyProof.Rows.boot_isinstance (pa_cons (pv 0) (pa_cons (pe_glob (v := .ref (He.ga K "BadQuestions")) rfl (T.at "BadQuestions" (by decide +kernel)).gC rfl) pa_nil))) (pa_cons (pe_callB call_isX (by rfl) gIs PyProof.Rows.boot_isinstance (pa_cons (pv 0) (pa_cons (pe_glob (v := .ref (He.ga K "BadStand")) rfl (T.at "BadStand" (by decide +kernel)).gC rfl) pa_nil))) pa_nil)))))
      (pss_cons (ps_set (i := 1) scS.nd rfl (.inl rfl) (pe_op op_cat (pv 1) (pe_lst (t := tIss K (cs K srow9)) (pa_cons (pe_callB call_isX (by rfl) gIs PyProof.Rows.boot_isinstance (pa_cons (pv 0) (pa_cons (pe_glob (v := .ref (He.ga K "BadSteps")) rfl (T.at "BadSteps" (by decide +kernel)).gC rfl) pa_nil))) (pa_cons (pe_callB call_isX (by rfl) gIs PyProof.Rows.boot_isinstance (pa_cons (pv 0) (pa_cons (pe_glob (v := .ref (He.ga K "BadText")) rfl (T.at "BadText" (by decide +kernel)).gC rfl) pa_nil))) pa_nil)))))
      (pss_cons (ps_set (i := 1) scS.nd rfl (.inl rfl) (pe_op op_cat (pv 1) (pe_lst (t := tIss K (cs K srow10)) (pa_cons (pe_callB call_isX (by rfl) gIs PyProof.Rows.boot_isinstance (pa_cons (pv 0) (pa_cons (pe_glob (v := .ref (He.ga K "BadTruth")) rfl (T.at "BadTruth" (by decide +kernel)).gC rfl) pa_nil))) (pa_cons (pe_callB call_isX (by rfl) gIs PyProof.Rows.boot_isinstance (pa_cons (pv 0) (pa_cons (pe_glob (v := .ref (He.ga K "BadWay")) rfl (T.at "BadWay" (by decide +kernel)).gC rfl) pa_nil))) pa_nil)))))
      (pss_cons (ps_set (i := 1) scS.nd rfl (.inl rfl) (pe_op op_cat (pv 1) (pe_lst (t := tIss K (cs K srow11)) (pa_cons (pe_callB call_isX (by rfl) gIs PyProof.Rows.boot_isinstance (pa_cons (pv 0) (pa_cons (pe_glob (v := .ref (He.ga K "BadWork")) rfl (T.at "BadWork" (by decide +kernel)).gC rfl) pa_nil))) (pa_cons (pe_callB call_isX (by rfl) gIs PyProof.Rows.boot_isinstance (pa_cons (pv 0) (pa_cons (pe_glob (v := .ref (He.ga K "BadWorld")) rfl (T.at "BadWorld" (by decide +kernel)).gC rfl) pa_nil))) pa_nil)))))
      (pss_cons (ps_set (i := 1) scS.nd rfl (.inl rfl) (pe_op op_cat (pv 1) (pe_lst (t := tIss K (cs K srow12)) (pa_cons (pe_callB call_isX (by rfl) gIs PyProof.Rows.boot_isinstance (pa_cons (pv 0) (pa_cons (pe_glob (v := .ref (He.ga K "Clash")) rfl (T.at "Clash" (by decide +kernel)).gC rfl) pa_nil))) (pa_cons (pe_callB call_isX (by rfl) gIs PyProof.Rows.boot_isinstance (pa_cons (pv 0) (pa_cons (pe_glob (v := .ref (He.ga K "Full")) rfl (T.at "Full" (by decide +kernel)).gC rfl) pa_nil))) (pa_cons (pe_callB call_isX (by rfl) gIs PyProof.Rows.boot_isinstance (pa_cons (pv 0) (pa_cons (pe_glob (v := .ref (He.ga K "NoFile")) rfl (T.at "NoFile" (by decide +kernel)).gC rfl) pa_nil))) pa_nil))))))
      (pss_cons (ps_set (i := 1) scS.nd rfl (.inl rfl) (pe_op op_cat (pv 1) (pe_lst (t := tIss K (cs K srow13)) (pa_cons (pe_callB call_isX (by rfl) gIs PyProof.Rows.boot_isinstance (pa_cons (pv 0) (pa_cons (pe_glob (v := .ref (He.ga K "NoMark")) rfl (T.at "NoMark" (by decide +kernel)).gC rfl) pa_nil))) (pa_cons (pe_callB call_isX (by rfl) gIs PyProof.Rows.boot_isinstance (pa_cons (pv 0) (pa_cons (pe_glob (v := .ref (He.ga K "NoStep")) rfl (T.at "NoStep" (by decide +kernel)).gC rfl) pa_nil))) pa_nil)))))
      (pss_cons (ps_set (i := 1) scS.nd rfl (.inl rfl) (pe_op op_cat (pv 1) (pe_lst (t := tIss K (cs K srow14)) (pa_cons (pe_callB call_isX (by rfl) gIs PyProof.Rows.boot_isinstance (pa_cons (pv 0) (pa_cons (pe_glob (v := .ref (He.ga K "NothingToUndo")) rfl (T.at "NothingToUndo" (by decide +kernel)).gC rfl) pa_nil))) (pa_cons (pe_callB call_isX (by rfl) gIs PyProof.Rows.boot_isinstance (pa_cons (pv 0) (pa_cons (pe_glob (v := .ref (He.ga K "NoTrial")) rfl (T.at "NoTrial" (by decide +kernel)).gC rfl) pa_nil))) pa_nil)))))
      (pss_cons (ps_set (i := 1) scS.nd rfl (.inl rfl) (pe_op op_cat (pv 1) (pe_lst (t := tIss K (cs K srow15)) (pa_cons (pe_callB call_isX (by rfl) gIs PyProof.Rows.boot_isinstance (pa_cons (pv 0) (pa_cons (pe_glob (v := .ref (He.ga K "NotSure")) rfl (T.at "NotSure" (by decide +kernel)).gC rfl) pa_nil))) (pa_cons (pe_callB call_isX (by rfl) gIs PyProof.Rows.boot_isinstance (pa_cons (pv 0) (pa_cons (pe_glob (v := .ref (He.ga K "NotUnderWay")) rfl (T.at "NotUnderWay" (by decide +kernel)).gC rfl) pa_nil))) pa_nil)))))
      (pss_cons (ps_set (i := 1) scS.nd rfl (.inl rfl) (pe_op op_cat (pv 1) (pe_lst (t := tIss K (cs K srow16)) (pa_cons (pe_callB call_isX (by rfl) gIs PyProof.Rows.boot_isinstance (pa_cons (pv 0) (pa_cons (pe_glob (v := .ref (He.ga K "NoWorld")) rfl (T.at "NoWorld" (by decide +kernel)).gC rfl) pa_nil))) (pa_cons (pe_callB call_isX (by rfl) gIs PyProof.Rows.boot_isinstance (pa_cons (pv 0) (pa_cons (pe_glob (v := .ref (He.ga K "TooMany")) rfl (T.at "TooMany" (by decide +kernel)).gC rfl) pa_nil))) pa_nil)))))
      (pss_cons (ps_set (i := 1) scS.nd rfl (.inl rfl) (pe_op op_cat (pv 1) (pe_lst (t := tIss K (cs K srow17)) (pa_cons (pe_callB call_isX (by rfl) gIs PyProof.Rows.boot_isinstance (pa_cons (pv 0) (pa_cons (pe_glob (v := .ref (He.ga K "UnderWay")) rfl (T.at "UnderWay" (by decide +kernel)).gC rfl) pa_nil))) pa_nil))))
      (pss_one (ps_ret (pv 1))))))))))))))))))))), ?_⟩
    refine firstS xa hI (Y.row hx srow0 (by decide +kernel)) (by simp [cs]) fun l0 H0 s0 e0 => ?_
    refine addS (xa.same s0) hI e0 (Y.row hx srow1 (by decide +kernel)) (by simp [cs]) fun l1 H1 t1 e1 => ?_
    have s1 := s0.trans t1
    refine addS (xa.same s1) hI e1 (Y.row hx srow2 (by decide +kernel)) (by simp [cs]) fun l2 H2 t2 e2 => ?_
    have s2 := s1.trans t2
    refine addS (xa.same s2) hI e2 (Y.row hx srow3 (by decide +kernel)) (by simp [cs]) fun l3 H3 t3 e3 => ?_
    have s3 := s2.trans t3
    refine addS (xa.same s3) hI e3 (Y.row hx srow4 (by decide +kernel)) (by simp [cs]) fun l4 H4 t4 e4 => ?_
    have s4 := s3.trans t4
    refine addS (xa.same s4) hI e4 (Y.row hx srow5 (by decide +kernel)) (by simp [cs]) fun l5 H5 t5 e5 => ?_
    have s5 := s4.trans t5
    refine addS (xa.same s5) hI e5 (Y.row hx srow6 (by decide +kernel)) (by simp [cs]) fun l6 H6 t6 e6 => ?_
    have s6 := s5.trans t6
    refine addS (xa.same s6) hI e6 (Y.row hx srow7 (by decide +kernel)) (by simp [cs]) fun l7 H7 t7 e7 => ?_
    have s7 := s6.trans t7
    refine addS (xa.same s7) hI e7 (Y.row hx srow8 (by decide +kernel)) (by simp [cs]) fun l8 H8 t8 e8 => ?_
    have s8 := s7.trans t8
    refine addS (xa.same s8) hI e8 (Y.row hx srow9 (by decide +kernel)) (by simp [cs]) fun l9 H9 t9 e9 => ?_
    have s9 := s8.trans t9
    refine addS (xa.same s9) hI e9 (Y.row hx srow10 (by decide +kernel)) (by simp [cs]) fun l10 H10 t10 e10 => ?_
    have s10 := s9.trans t10
    refine addS (xa.same s10) hI e10 (Y.row hx srow11 (by decide +kernel)) (by simp [cs]) fun l11 H11 t11 e11 => ?_
    have s11 := s10.trans t11
    refine addS (xa.same s11) hI e11 (Y.row hx srow12 (by decide +kernel)) (by simp [cs]) fun l12 H12 t12 e12 => ?_
    have s12 := s11.trans t12
    refine addS (xa.same s12) hI e12 (Y.row hx srow13 (by decide +kernel)) (by simp [cs]) fun l13 H13 t13 e13 => ?_
    have s13 := s12.trans t13
    refine addS (xa.same s13) hI e13 (Y.row hx srow14 (by decide +kernel)) (by simp [cs]) fun l14 H14 t14 e14 => ?_
    have s14 := s13.trans t14
    refine addS (xa.same s14) hI e14 (Y.row hx srow15 (by decide +kernel)) (by simp [cs]) fun l15 H15 t15 e15 => ?_
    have s15 := s14.trans t15
    refine addS (xa.same s15) hI e15 (Y.row hx srow16 (by decide +kernel)) (by simp [cs]) fun l16 H16 t16 e16 => ?_
    have s16 := s15.trans t16
    refine addS (xa.same s16) hI e16 (Y.row hx srow17 (by decide +kernel)) (by simp [cs]) fun l17 H17 t17 e17 => ?_
    have s17 := s16.trans t17
    refine ⟨_, rfl, k l17 H17 s17 ?_⟩
    simp only [cs_app, List.append_assoc] at e17
    exact e17
end
end K59
namespace K59
open PySem L2
open PySem.Spec
open PyProof.Rows
open V9
def spRight : Sp := fun vs H Q _ => ∃ (p : Addr) (c : Int), vs = [.ref p] ∧ Pot H p c ∧ c ≤ 900000 ∧
  ∀ (c' : Int) (H' : Hp), But p H H' → Pot H' p c' → c' ≤ c + 100 → Q (.bl true) H'
section
variable {P : Program} {w : World} {K : PySem.W.Frag} {mg : Str → Option Value} {base : Heap}
theorem scR : FnScope ["_law_pot", "_law_thing", "_law_some", "_law_at", "_law_one", "_law_k"] ["_law_pot"] (defScope sRight) :=
  ⟨rfl, rfl, rfl, by decide +kernel, rfl, by decide +kernel, by decide +kernel⟩
/-- what right leans on -/
structure RTxt (K : PySem.W.Frag) (mg : Str → Option Value) (fI fOdd fMade fSorts : Addr) : Prop where
  T : XCs K mg fI
  Y : KCs K
  gOdd : mg "_law_odd" = some (.ref fOdd)
  gMade : mg "_law_made" = some (.ref fMade)
  gSorts : mg "_law_sorts" = some (.ref fSorts)
  gS : mg "StepError" = some (.ref (He.ga K "StepError"))
  gIs : mg "isinstance" = none
  gEn : mg "enumerate" = none
  gR : mg "range" = none
  gL : mg "len" = none
  gV : mg "ValueError" = none
  gRp : mg "repr" = none
theorem ok_right {f fI fOdd fMade fSorts : Addr} {fd fdI fdOdd fdMade fdSorts : FuncData} (F : Fun K "_law_right" "_law_right" sRight f fd) (X : RTxt K mg fI fOdd fMade fSorts)
    (GI : FnOk P w K mg base CX0 1 fI fdI ["self", "value"] (spInit K))
    (bK : ∀ (s : Shared) (a : Addr) (ws : List Value), K.In s.heap → ws.length = (["value"] : List Str).length → BindsTo s fdI ⟨[.ref a], (["value"] : List Str).zip ws⟩ ((["self", "value"] : List Str).zip (.ref a :: ws)))
    (GO : FnOk P w K mg base CX0 3 fOdd fdOdd ["_law_pot"] spOdd) (kO : PySem.W.keepIn K (.ref fOdd) = true) (bO : Binds K fdOdd ["_law_pot"] [])
    (GM : FnOk P w K mg base CX0 3 fMade fdMade ["_law_thing"] (spMade K)) (kM : PySem.W.keepIn K (.ref fMade) = true) (bM : Binds K fdMade ["_law_thing"] [])
    (GS : FnOk P w K mg base CX0 1 fSorts fdSorts ["_law_one"] (spSorts K)) (kS : PySem.W.keepIn K (.ref fSorts) = true) (bS : Binds K fdSorts ["_law_one"] []) :
    FnG P w K mg base CX0 4 f fd ["_law_pot"] spRight := by
  refine okG F scR (fun vs H Q E h => ?_) (fun cdv A outer s H vs Q E hG hr h => ?_)
  · obtain ⟨p, c, rfl, _⟩ := h
    rfl
  · obtain ⟨p, c, rfl, hp, c1, k⟩ := h
    have hr1 : Room 1 _ := hr.mono (by decide)
    have hr2 : Room 2 _ := hr.mono (by decide)
    have hG' : (A.deeper (envOfC "_law_right" (defScope sRight) s.heap.objs.size f cdv)).guards = some [] := hG
    have hu : (A.deeper (envOfC "_law_right" (defScope sRight) s.heap.objs.size f cdv)).units + 150 < cLine := by have := hr.un; omega
    refine ⟨_, pss_cons (ps_set (i := 1) scR.nd rfl (.inl rfl) (pe_call GO hr rfl X.gOdd kO bO .nil pass0 (pa_cons (pv 0) pa_nil)))
      (pss_cons (ps_set (i := 2) scR.nd rfl (.inl rfl) (pe_call GM hr rfl X.gMade kM bM .nil pass0 (pa_cons (pv 1) pa_nil)))
      (pss_cons (ps_for PassesOwn.never rfl (pi_enum (by rfl) X.gEn (pa_cons (pv 2) pa_nil))
          (pg_tup (by rfl) (pgs_cons (pg_name (i := 3) scR.nd rfl (.inr rfl)) (pgs_cons (pg_name (i := 4) scR.nd rfl (.inl rfl)) pgs_nil)))
          (pss_cons (ps_if (pt_cmpR (op_neD hr.units) (pe_call GS hr1 rfl X.gSorts kS bS .nil pass0 (pa_cons (pv 4) pa_nil))
              (pe_lc (own := [("_law_k", 5)]) (g := gName 5) (tt := tYes) rfl scR.nd (pi_range1 rfl X.gR (pa_cons (pe_callB call_len_seq (by rfl) X.gL boot_len (pa_cons (pv 2) pa_nil)) pa_nil))
                (blkOk_by (own := [("_law_k", 5)]) (N := ["_law_pot", "_law_thing", "_law_some", "_law_at", "_law_one", "_law_k"]) (sc := defScope sRight) (by decide +kernel))
                (fun _ _ _ _ _ => pg_name (i := 5) scR.nd rfl (Or.inl rfl)) (fun _ _ _ _ _ => pts_nil)
                (fun _ _ _ _ _ => pe_cmpR op_eq (pv 3) (pv 5) (nomark _))) (nomark _)) (pss_one (ps_ret pe_bl)) pss_nil)
          (pss_one (ps_if (PW.pt (pw_or (pt_not (pt_val (pe_callB call_isX (by rfl) X.gIs PyProof.Rows.boot_isinstance (pa_cons (pv 4) (pa_cons (pe_glob (v := .ref (He.ga K "StepError")) rfl X.gS rfl) pa_nil)))))
              (pw_or (pt_not (pt_val (pe_callB call_isX (by rfl) X.gIs PyProof.Rows.boot_isinstance (pa_cons (pv 4) (pa_cons (pe_bltn (v := .ty "ValueError") (by rfl) X.gV (by decide +kernel) rfl) pa_nil)))))
              (pw_or1 (pt_cmpR op_ne (pe_callB (call_rep hG' hu) (by rfl) X.gRp (by decide +kernel) (pa_cons (pe_xv (pv 4)) pa_nil)) (pe_callB (call_rep hG' hu) (by rfl) X.gRp (by decide +kernel) (pa_cons (pv 1) pa_nil)) (nomark _))))))
            (pss_one (ps_ret pe_bl)) pss_nil))))
      (pss_one (ps_ret (pe_cmpR op_eq (pe_callB (call_rep hG' hu) (by rfl) X.gRp (by decide +kernel) (pa_cons (pe_xv (pe_oexK (ks := ["value"]) (X.T.at "BadLine" (by decide +kernel)).T (X.T.at "BadLine" (by decide +kernel)).iC X.T.tI GI hr2 bK pass0 rfl
          (X.T.at "BadLine" (by decide +kernel)).gC (pk_cons (pv 1) pk_nil))) pa_nil)) (pe_callB (call_rep hG' hu) (by rfl) X.gRp (by decide +kernel) (pa_cons (pv 1) pa_nil)) (nomark _)))))), ?_⟩
    -- thing = odd(pot)
    refine ⟨_, rfl, p, c, rfl, hp, c1, fun v d c' H1 B1 D1 fd1 hp1 hc1 => ?_⟩
    have z1 : d.shown.length ≤ sizeLine := by have := fd1.len; rw [sizeLine_eq]; omega
    have z2 : d.depth ≤ 100 := by have := fd1.dep; omega
    -- some = made(thing)
    refine ⟨_, rfl, v, rfl, fun l as H2 s2 e2 x2 => ?_⟩
    -- for at, one in enumerate(some)
    refine ⟨_, rfl, l, _, rfl, .of e2, for_it (walk_enum (K := K) (a := l) (xs := as.map V.ref)) (fun i σ H3 => ∃ o3 o4, σ = [some (.ref p), some v, some (.ref l), o3, o4, none] ∧ Same H2 H3)
      ⟨none, none, rfl, Same.refl _⟩ (fun i σ H3 _ ⟨_, _, _, s3⟩ => .of (s3 _ _ e2)) ?_ ?_⟩
    · rintro i xx σ H3 H3' hi ⟨o3, o4, rfl, s3⟩ ⟨T, xi, yi, rfl, hT, rfl, ei, ey⟩
      obtain rfl : V.int (i : Nat) = xi := Option.some.inj ei
      rw [List.length_map] at hi
      have ea : as[i]? = some as[i] := List.getElem?_eq_getElem hi
      have ey : (as.map V.ref)[i]? = some yi := ey
      rw [List.getElem?_map, ea] at ey
      obtain rfl : V.ref as[i] = yi := Option.some.inj ey
      obtain ⟨C, hC, xa⟩ := x2.at ea
      have hn : as.length = 36 := by rw [x2.len, cs, List.length_map]; decide +kernel
      obtain ⟨x, hx, rfl⟩ : ∃ x, names[i]? = some x ∧ He.ga K x = C := by
        rw [cs, List.getElem?_map] at hC
        cases e : names[i]? with
        | none => rw [e] at hC; cases hC
        | some x => rw [e] at hC; exact ⟨x, rfl, Option.some.inj hC⟩
      have hxm : x ∈ names := List.mem_of_getElem? hx
      have s3' := s3.trans (Same.new (o := .tup [V.int (i : Nat), V.ref as[i]]) hT)
      have hX := X.T.all x hxm
      -- the pair
      refine ⟨T, _, rfl, .of upd_same, rfl, _, _, rfl, _, _, rfl, rfl, ?_⟩
      -- sorts
      refine ⟨_, rfl, as[i], x, v, rfl, hxm, xa.same s3', fun ls H4 s4 e4 => ?_⟩
      have q4 := s3'.trans s4
      -- [at == k ..]
      refine ⟨_, rfl, l, _, rfl, .inl (.of (q4 _ _ e2)), _, rfl, ?_, ?_, fun D hD => ?_⟩
      · rw [List.length_map, hn]; decide
      · rw [List.length_map, hn]; decide
      rw [List.length_map, hn]
      refine lc_range (lo := 0) (n := 36) (fun j H5 => Same H4 H5 ∧ H5 D = some (.lst (bits i j))) ⟨Same.new hD, upd_same⟩ ?_ ?_
      · rintro j H5 hj ⟨s5, e5⟩
        refine ⟨rfl, ?_⟩
        unfold tYes
        dsimp only
        rw [if_pos rfl]
        refine ⟨_, rfl, _, rfl, rfl, bits i j, e5, ?_, ?_, ?_⟩
        · rw [bits, List.length_map, List.length_range, sizeLine_eq]; omega
        · refine fun b o e => ?_
          have ne : b ≠ D := fun z => by
            rw [z] at e
            exact absurd (e.symm.trans hD) (by simp)
          rw [upd_ne ne]
          exact s5 _ _ e
        · have e6 : bits i (j + 1) = bits i j ++ [V.bl (decide (V.int (i : Nat) = V.int (0 + (j : Nat))))] := by
            unfold bits
            rw [List.range_succ, List.map_append]
            have : decide (V.int (i : Nat) = V.int (0 + (j : Nat))) = decide (i = j) := by
              have h : (V.int (i : Nat) = V.int (0 + (j : Nat))) ↔ i = j := by
                constructor
                · intro z
                  have := V.int.inj z
                  omega
                · intro z
                  rw [z]; simp
              simp only [h]
            rw [this]
            rfl
          rw [e6]
          exact upd_same
      · rintro H5 ⟨s5, e5⟩
        have hb : hot (He.ga K x) (cs K names) = bits i 36 := by
          have q := hot_bits X.Y.nd hC
          rw [q]
          have : (cs K names).length = 36 := by rw [cs, List.length_map]; decide +kernel
          rw [this]
        refine ⟨.list (bitsD i 36), .list (bitsD i 36), .lst (.of (s5 _ _ e4)) (by rw [hb]; exact dp_bools _ _), .lst (.of e5) (dp_bools _ _), bits_shaped i, bits_shaped i, _, rfl, ?_⟩
        rw [SeqAt.eqv_refl _ (SeqAt.canLay_of_shaped (bits_shaped i))]
        refine iteF ?_
        -- isinstance, isinstance, repr
        have q5 := q4.trans s5
        have xa5 := xa.same q5
        obtain ⟨dx, f1, f2⟩ := id xa5
        refine ⟨_, rfl, as[i], He.ga K x, dx, _, "value", v, _, _, _, rfl, f1, f2, rfl, hX.I, .own _, X.Y.kitS x hxm, _, rfl, iteF ?_⟩
        refine ⟨_, rfl, as[i], He.ga K x, dx, _, "value", v, _, _, _, rfl, f1, f2, rfl, hX.I, .ty _, X.Y.kitV x hxm, _, rfl, iteF ?_⟩
        have D5 := D1.same (s2.trans q5)
        refine ⟨_, rfl, as[i], He.ga K x, dx, _, v, rfl, f1, f2, hX.R, rfl, v, d, rfl, D5, fd1.sh, z1, z2, _, rfl, v, d, rfl, D5, fd1.sh, z1, z2, rfl, _, rfl, ?_⟩
        rw [decide_eq_true rfl]
        refine iteF ?_
        exact ⟨_, _, rfl, q5⟩
    · rintro σ H3 ⟨o3, o4, rfl, s3⟩
      have hX := X.T.at "BadLine" (by decide +kernel)
      have D3 := D1.same (s2.trans s3)
      refine ⟨v, rfl, rfl, by show 1 ≤ 1000; decide, fun a ha => ⟨a, He.ga K "BadLine", v, rfl, upd_same, hX.T, hX.R.no, fun dx hd ne => ⟨rfl, ?_⟩⟩⟩
      rw [upd_ne ne] at hd
      have sb : Same H3 (upd (upd (upd H3 a (exo a (He.ga K "BadLine") none)) dx (exd dx [("value", v)])) a (exo a (He.ga K "BadLine") (some dx))) := fun b o e => by
        have n1 := ne_of_none e ha
        rw [upd_ne n1, upd_ne (ne_of_none e hd), upd_ne n1]
        exact e
      have Db := D3.same sb
      refine ⟨a, He.ga K "BadLine", dx, _, v, rfl, upd_same, by rw [upd_ne ne, upd_same], hX.R, rfl, v, d, rfl, Db, fd1.sh, z1, z2, _, rfl, v, d, rfl, Db, fd1.sh, z1, z2, rfl, ?_⟩
      rw [decide_eq_true rfl]
      exact k c' _ (B1.trans (But.of ((s2.trans s3).trans sb))) (hp1.same ((s2.trans s3).trans sb)) hc1
end
end K59
namespace K59
open PySem L2
open PySem.Spec
open PyProof.Rows
open V9
def spLaw (K : PySem.W.Frag) : Sp := fun vs H Q _ => ∃ (a : Addr) (ns : List Int), vs = [.ref a] ∧ SqL K H a (ns.map V.int) ∧ ns.length ≤ 63 ∧ ∀ H', Q (.bl true) H'
section
variable {P : Program} {w : World} {K : PySem.W.Frag} {mg : Str → Option Value} {base : Heap}
theorem scL : FnScope ["_law_script", "_law_k", "_law_pot", "_law_turn"] ["_law_script"] (defScope sLaw) :=
  ⟨rfl, rfl, rfl, by decide +kernel, rfl, by decide +kernel, by decide +kernel⟩
theorem all_true : ∀ n : Nat, ((List.replicate n true).all id) = true
  | 0 => rfl
  | n + 1 => by rw [List.replicate_succ, List.all_cons, all_true n]; rfl
theorem ok_law {f fP fR : Addr} {fd fdP fdR : FuncData} (F : Fun K "law" "law" sLaw f fd)
    (GP : FnOk P w K mg base CX0 1 fP fdP ["_law_script", "_law_k"] (spPotOf K)) (kP : PySem.W.keepIn K (.ref fP) = true) (bP : Binds K fdP ["_law_script", "_law_k"] [])
    (GR : FnG P w K mg base CX0 4 fR fdR ["_law_pot"] spRight) (kR : PySem.W.keepIn K (.ref fR) = true) (bR : Binds K fdR ["_law_pot"] [])
    (gP : mg "_law_pot_of" = some (.ref fP)) (gR : mg "_law_right" = some (.ref fR))
    (gRa : mg "range" = none) (gMx : mg "max" = none) (gMn : mg "min" = none) (gL : mg "len" = none) (gA : mg "all" = none) :
    FnG P w K mg base CX0 5 f fd ["_law_script"] (spLaw K) := by
  refine okG F scL (fun vs H Q E h => ?_) (fun cdv A outer s H vs Q E hG hr h => ?_)
  · obtain ⟨a, ns, rfl, _⟩ := h
    rfl
  · obtain ⟨a, ns, rfl, hS, hl, k⟩ := h
    have hr1 : Room 1 _ := hr.mono (by decide)
    refine ⟨_, pss_cons (ps_for PassesOwn.never rfl (pi_range1 rfl gRa (pa_cons (pe_callB (call_max2 rfl) (by rfl) gMx PyProof.Rows.boot_max (pa_cons pe_int
          (pa_cons (pe_callB (call_min2 rfl) (by rfl) gMn PyProof.Rows.boot_min (pa_cons pe_int (pa_cons (pe_callB call_len_seq (by rfl) gL boot_len (pa_cons (pv 0) pa_nil)) pa_nil))) pa_nil))) pa_nil))
        (pg_name (i := 1) scL.nd rfl (.inl rfl))
        (pss_cons (ps_set (i := 2) scL.nd rfl (.inr rfl) (pe_call GP hr1 rfl gP kP bP .nil pass0 (pa_cons (pv 0) (pa_cons (pv 1) pa_nil))))
        (pss_one (ps_if (pt_not (pt_val (pe_callB (cr_all rfl) (by rfl) gA (by decide +kernel) (pa_cons
            (pe_lc (own := [("_law_turn", 3)]) (g := gName 3) (tt := tYes) rfl scL.nd (pi_range1 rfl gRa (pa_cons pe_int pa_nil))
              (blkOk_by (own := [("_law_turn", 3)]) (N := ["_law_script", "_law_k", "_law_pot", "_law_turn"]) (sc := defScope sLaw) (by decide +kernel))
              (fun _ _ _ _ _ => pg_name (i := 3) scL.nd rfl (Or.inl rfl)) (fun _ _ _ _ _ => pts_nil)
              (fun _ _ _ _ _ => pe_callG hG GR hr rfl gR kR bR .nil pass0 (pa_cons (pv 2) pa_nil))) pa_nil)))) (pss_one (ps_ret pe_bl)) pss_nil))))
      (pss_one (ps_ret pe_bl)), ?_⟩
    refine ⟨_, rfl, a, _, rfl, .inl hS, _, _, rfl, _, _, rfl, _, rfl, ?_, ?_, ?_⟩
    · split <;> split <;> omega
    · split <;> split <;> omega
    have hm : ∀ {i : Nat}, i < (if (if ((ns.map V.int).length : Int) < 3 then ((ns.map V.int).length : Int) else 3) > 1 then (if ((ns.map V.int).length : Int) < 3 then ((ns.map V.int).length : Int) else 3) else 1).toNat → i ≤ 3 := fun {i} h => by
      split at h <;> (try split at h) <;> omega
    refine for_range (lo := 0) (fun i σ H' => ∃ o1 o2, σ = [some (.ref a), o1, o2, none] ∧ Same H H') ⟨none, none, rfl, Same.refl _⟩ ?_ ?_
    · rintro i σ H' hi ⟨o1, o2, rfl, s1⟩
      have hi3 := hm hi
      refine ⟨_, rfl, _, rfl, a, ns, i, by rw [Int.zero_add]; rfl, s1.seq hS, by omega, fun p H2 hp s2 hP => ?_⟩
      have np : H p = none := by
        cases e : H p with
        | none => rfl
        | some o => rw [s1 p o e] at hp; cases hp
      have S2 := s1.trans s2
      refine ⟨3, rfl, by decide, by decide, fun D hD => lc_range (lo := 0) (n := 3) (fun j H3 => ∃ c, Same H H3 ∧ Pot H3 p c ∧ c ≤ 100 * (j : Int) ∧ H3 D = some (.lst (List.replicate j (V.bl true)))) ?_ ?_ ?_⟩
      · exact ⟨0, S2.trans (Same.new hD), hP.same (Same.new hD), by omega, upd_same⟩
      · rintro j H3 hj ⟨c, s3, p3, c3, e3⟩
        refine ⟨rfl, ?_⟩
        unfold tYes
        dsimp only
        rw [if_pos rfl]
        refine ⟨_, rfl, p, c, rfl, p3, by omega, fun c' H4 hB hp' hc' => ?_⟩
        obtain ⟨xs, ep⟩ := hP.at
        have nD : D ≠ p := fun z => by
          rw [z] at hD
          exact absurd (ep.symm.trans hD) (by simp)
        have nDH : H D = none := by
          cases e : H D with
          | none => rfl
          | some o => exact absurd ((S2 D o e).symm.trans hD) (by simp)
        refine ⟨_, hB D _ nD e3, ?_, c', fun b o e => ?_, ?_, by omega, ?_⟩
        · rw [List.length_replicate, sizeLine_eq]; omega
        · rw [upd_ne (ne_of_none e nDH)]
          exact hB b o (ne_of_none e np) (s3 b o e)
        · obtain ⟨x, y, e, r⟩ := hp'
          exact ⟨x, y, by rw [upd_ne (Ne.symm nD)]; exact e, r⟩
        · rw [← List.replicate_succ']
          exact upd_same
      · rintro H3 ⟨c, s3, p3, c3, e3⟩
        refine ⟨D, List.replicate 3 true, rfl, .of (by rw [List.map_replicate]; exact e3), true, rfl, ?_⟩
        refine iteF ?_
        exact ⟨_, _, rfl, s3⟩
    · rintro σ H' ⟨o1, o2, rfl, s1⟩
      exact k H'
end
end K59
namespace K59
open PySem L2
open PySem.Spec
open PyProof.Rows
open V9
def defNames : List Str := ["_law_take", "_law_of", "_law_pot_of", "_law_odd", "_law_made", "_law_sorts", "_law_right"]
def globs : List Str := "law" :: "StepError" :: (defNames ++ names)
def free1 : List Str := ["int", "len", "abs", "range", "isinstance", "enumerate", "ValueError", "repr", "max", "min", "all"]
def fIK (K : PySem.W.Frag) : Addr := He.ma K (He.ga K "StepError") "__init__"
def distinct : List Addr → Bool
  | [] => true
  | a :: r => !r.contains a && distinct r
theorem distinct_ok : ∀ {l : List Addr}, distinct l = true → l.Nodup
  | [], _ => List.nodup_nil
  | a :: r, h => by
    obtain ⟨h1, h2⟩ := Bool.and_eq_true_iff.mp (show (!r.contains a && distinct r) = true from h)
    refine List.nodup_cons.mpr ⟨fun z => ?_, distinct_ok h2⟩
    have := List.contains_iff_mem.mpr z
    rw [this] at h1
    cases h1
def factsB (K : PySem.W.Frag) : Bool :=
  (globs.all fun x => (He.Fa.glo x).ok K) && ((free1.all fun x => (He.Fa.free x).ok K) && (clsB K && ((names.all fun x => excB K (fIK K) (He.ga K x) "value") &&
  (decide (PySem.W.typeIn K (.ref (fIK K)) = some (.type "function")) &&
  ((names.all fun x => names.all fun y => decide (PySem.W.kitOne K (.ref (He.ga K x)) (.ref (He.ga K y)) = some (decide (He.ga K x = He.ga K y)))) &&
  ((names.all fun x => decide (PySem.W.kitOne K (.ref (He.ga K x)) (.ref (He.ga K "StepError")) = some true)) &&
  ((names.all fun x => decide (PySem.W.kitOne K (.ref (He.ga K x)) (.type "ValueError") = some true)) && distinct (cs K names))))))))
structure Facts (K : PySem.W.Frag) : Prop where
  gl : ∀ x ∈ globs, (He.Fa.glo x).ok K = true
  fr : ∀ x ∈ free1, (He.Fa.free x).ok K = true
  ex : ∀ x ∈ names, OexC K (He.ga K x) ∧ PySem.W.findIn K (.ref (He.ga K x)) "__init__" = some (some (.ref (fIK K))) ∧ OexR K (He.ga K x) "value" ∧ OexI K (He.ga K x)
  tI : PySem.W.typeIn K (.ref (fIK K)) = some (.type "function")
  kc : KCs K
theorem facts_ok {K : PySem.W.Frag} (h : factsB K = true) : Facts K := by
  have b := fun {a b : Bool} (h : (a && b) = true) => Bool.and_eq_true_iff.mp h
  obtain ⟨h1, h⟩ := b h
  obtain ⟨h2, h⟩ := b h
  obtain ⟨h3, h⟩ := b h
  obtain ⟨h4, h⟩ := b h
  obtain ⟨h5, h⟩ := b h
  obtain ⟨h6, h⟩ := b h
  obtain ⟨h7, h⟩ := b h
  obtain ⟨h8, h9⟩ := b h
  exact ⟨List.all_eq_true.mp h1, List.all_eq_true.mp h2, fun x hx => excB_ok (List.all_eq_true.mp h4 x hx) h3, of_decide_eq_true h5,
    ⟨fun x hx y hy => of_decide_eq_true (List.all_eq_true.mp (List.all_eq_true.mp h6 x hx) y hy), fun x hx => of_decide_eq_true (List.all_eq_true.mp h7 x hx),
      fun x hx => of_decide_eq_true (List.all_eq_true.mp h8 x hx), distinct_ok h9⟩⟩
def fn : List He.DefD := [mOf "StepError" "__init__" "StepError.__init__" sInit, dOf "_law_take" sTake, dOf "_law_of" sOf, dOf "_law_pot_of" sPotOf, dOf "_law_odd" sOdd, dOf "_law_made" sMade, dOf "_law_sorts" sSorts, dOf "_law_right" sRight, dOf "law" sLaw]
abbrev R : PySem.W.OpenRow := PySem.W.OpenLaw.row PySem.Challenge.rw_stepsunread_k59_errors_with_any_value
abbrev hk : PySem.W.Hook := hookV 5 factsB fn
def ob (s : PySem.W.SharedT) : He.AlD := obsVG 5 factsB fn (HandSHeadRun.getT s)
theorem ob_eq (s : PySem.W.SharedT) : ob s = hk.obs s.abs := obsVG_eq (HandSHeadRun.getT_eq s)
def loose1 : List Str := ["StepError", "BadWork", "NoStep", "NoFile", "BadFacts", "BadWay", "BadCrew", "BadStand", "BadEnd", "BadBook", "BadWorld", "BadQuestion", "BadMarks", "BadQuestions", "NotSure", "NoWorld", "BadPrices", "BadSteps", "BadLog", "BadGoal"]
def loose2 : List Str := ["BadCount", "BadTruth", "BadContent", "UnderWay", "NotUnderWay", "BadMill", "Clash", "TooMany", "NoMark", "Full", "NothingToUndo", "NoTrial", "BadProgram", "BadEvent", "BadText", "BadHouse", "BadLine"]
def loose3 : List Str := ["_law_take", "_law_of", "_law_pot_of", "_law_odd", "_law_made", "_law_sorts", "_law_right"]
def loose : List Str := loose1 ++ (loose2 ++ loose3)
theorem run (w : World) : HandSHeadRun.RunEq R (PySem.W.view R.prog [46]) hk ob 20000 loose w := by
  intro os
  kernel_rfl
end K59
namespace K59
open PySem L2
open PySem.Spec
open PyProof.Rows
open V9
theorem bindsK {K : PySem.W.Frag} {f : Addr} {fd : FuncData} (F : Fun K "__init__" "StepError.__init__" sInit f fd) :
    ∀ (s : Shared) (a : Addr) (ws : List Value), K.In s.heap → ws.length = (["value"] : List Str).length →
      BindsTo s fd ⟨[.ref a], (["value"] : List Str).zip ws⟩ ((["self", "value"] : List Str).zip (.ref a :: ws)) := by
  obtain ⟨oc, od, kV, doc, pm, an, cdv, ct, osl, rfl, lk, hcd⟩ := F.ex
  intro s a ws _ hl
  match ws, hl with
  | [u], _ => exact .of_eq rfl
theorem all_mk {P : Program} {w : World} {K : PySem.W.Frag} {h : Heap} {mg : Str → Option Value} {fa : Addr} (X : K.In h) (G : h.Ns mainGlobals mg) (hfa : mg ("law" : Str) = some (.ref fa))
    (c : obsV factsB fn K = valV fn) :
    ∃ fd : FuncData, (∀ (s : Shared) (v : Value), BindsTo s fd ⟨[v], []⟩ [("_law_script", v)]) ∧
      ∀ base : Heap, K.In base → base.Ns mainGlobals mg → FnG P w K mg base CX0 5 fa fd ["_law_script"] (spLaw K) := by
  have T := facts_ok (says_fb c)
  have gl : ∀ x : Str, globs.contains x = true → mg x = some (.ref (He.ga K x)) := fun x hx => He.glo_ok X G (T.gl x (List.contains_iff_mem.mp hx))
  have fr : ∀ x : Str, free1.contains x = true → mg x = none := fun x hx => He.free_ok X G (T.fr x (List.contains_iff_mem.mp hx))
  have e := hfa.symm.trans (gl "law" (by decide +kernel))
  cases e
  obtain ⟨fd0, D0⟩ := says_def c 0
  obtain ⟨fd1, D1⟩ := says_def c 1
  obtain ⟨fd2, D2⟩ := says_def c 2
  obtain ⟨fd3, D3⟩ := says_def c 3
  obtain ⟨fd4, D4⟩ := says_def c 4
  obtain ⟨fd5, D5⟩ := says_def c 5
  obtain ⟨fd6, D6⟩ := says_def c 6
  obtain ⟨fd7, D7⟩ := says_def c 7
  obtain ⟨fd8, D8⟩ := says_def c 8
  have F0 : Fun K "__init__" "StepError.__init__" sInit (fIK K) fd0 := fun_of D0
  have F1 : Fun K "_law_take" "_law_take" sTake (He.ga K "_law_take") fd1 := fun_of D1
  have F2 : Fun K "_law_of" "_law_of" sOf (He.ga K "_law_of") fd2 := fun_of D2
  have F3 : Fun K "_law_pot_of" "_law_pot_of" sPotOf (He.ga K "_law_pot_of") fd3 := fun_of D3
  have F4 : Fun K "_law_odd" "_law_odd" sOdd (He.ga K "_law_odd") fd4 := fun_of D4
  have F5 : Fun K "_law_made" "_law_made" sMade (He.ga K "_law_made") fd5 := fun_of D5
  have F6 : Fun K "_law_sorts" "_law_sorts" sSorts (He.ga K "_law_sorts") fd6 := fun_of D6
  have F7 : Fun K "_law_right" "_law_right" sRight (He.ga K "_law_right") fd7 := fun_of D7
  have F8 : Fun K "law" "law" sLaw (He.ga K "law") fd8 := fun_of D8
  have b0 : Binds K fd0 ["self", "value"] [] := F0.binds fun _ _ _ _ _ _ us hl => match us, hl with | [_, _], _ => rfl
  have b1 : Binds K fd1 ["_law_pot", "_law_upto"] [] := F1.binds fun _ _ _ _ _ _ us hl => match us, hl with | [_, _], _ => rfl
  have b2 : Binds K fd2 ["_law_pot", "_law_some"] [] := F2.binds fun _ _ _ _ _ _ us hl => match us, hl with | [_, _], _ => rfl
  have b3 : Binds K fd3 ["_law_script", "_law_k"] [] := F3.binds fun _ _ _ _ _ _ us hl => match us, hl with | [_, _], _ => rfl
  have b4 : Binds K fd4 ["_law_pot"] [] := F4.binds fun _ _ _ _ _ _ us hl => match us, hl with | [_], _ => rfl
  have b5 : Binds K fd5 ["_law_thing"] [] := F5.binds fun _ _ _ _ _ _ us hl => match us, hl with | [_], _ => rfl
  have b6 : Binds K fd6 ["_law_one"] [] := F6.binds fun _ _ _ _ _ _ us hl => match us, hl with | [_], _ => rfl
  have b7 : Binds K fd7 ["_law_pot"] [] := F7.binds fun _ _ _ _ _ _ us hl => match us, hl with | [_], _ => rfl
  have b8 : Binds K fd8 ["_law_script"] [] := F8.binds fun _ _ _ _ _ _ us hl => match us, hl with | [_], _ => rfl
  have XX : XCs K mg (fIK K) := ⟨fun x hx => by
    obtain ⟨t1, t2, t3, t4⟩ := T.ex x hx
    have hg : x ∈ globs := List.mem_cons_of_mem _ (List.mem_cons_of_mem _ (List.mem_append_right _ hx))
    exact ⟨He.glo_ok X G (T.gl x hg), t1, t2, t3, t4⟩, T.tI⟩
  refine ⟨fd8, fun s v => ?_, fun base _ _ => ?_⟩
  · obtain ⟨oc, od, kV, doc, pm, an, cdv, ct, osl, rfl, lk, hcd⟩ := F8.ex
    exact .of_eq rfl
  · have gI := fr "int" (by decide +kernel)
    have gL := fr "len" (by decide +kernel)
    have gRa := fr "range" (by decide +kernel)
    have gIs := fr "isinstance" (by decide +kernel)
    have GI := ok_init (P := P) (w := w) (mg := mg) (base := base) F0
    have GO := ok_of (P := P) (w := w) (mg := mg) (base := base) F2 F1 b1 (gl "_law_take" (by decide +kernel)) gI gL
    have GP := ok_potof (P := P) (w := w) (mg := mg) (base := base) F3 gI gL (fr "abs" (by decide +kernel))
    have GOd := ok_odd (P := P) (w := w) (mg := mg) (base := base) F4 F2 GO b2 (gl "_law_of" (by decide +kernel)) gRa
    have GM := ok_made (P := P) (w := w) (mg := mg) (base := base) F5 XX GI b0
    have GS := ok_sorts (P := P) (w := w) (mg := mg) (base := base) F6 XX T.kc gIs
    have RT : RTxt K mg (fIK K) (He.ga K "_law_odd") (He.ga K "_law_made") (He.ga K "_law_sorts") :=
      ⟨XX, T.kc, gl "_law_odd" (by decide +kernel), gl "_law_made" (by decide +kernel), gl "_law_sorts" (by decide +kernel), gl "StepError" (by decide +kernel), gIs,
        fr "enumerate" (by decide +kernel), gRa, gL, fr "ValueError" (by decide +kernel), fr "repr" (by decide +kernel)⟩
    have GR := ok_right (P := P) (w := w) (mg := mg) (base := base) F7 RT GI (bindsK F0) GOd F4.kp b4 GM F5.kp b5 GS F6.kp b6
    exact ok_law F8 GP F3.kp b3 GR F7.kp b7 (gl "_law_pot_of" (by decide +kernel)) (gl "_law_right" (by decide +kernel)) gRa (fr "max" (by decide +kernel)) (fr "min" (by decide +kernel)) gL (fr "all" (by decide +kernel))
end K59
open PySem PySem.W PySem.Calls PyProof.Rows
set_option maxRecDepth 100000 in
set_option maxHeartbeats 0 in
theorem PySem.Challenge.cw_stepsunread_k59_errors_with_any_value_holds : PySem.Challenge.rw_stepsunread_k59_errors_with_any_value.Holds := by
  w_on; o_law
  refine HandSHeadRun.head_any (r := OpenLaw.row PySem.Challenge.rw_stepsunread_k59_errors_with_any_value) (q := view (OpenLaw.row PySem.Challenge.rw_stepsunread_k59_errors_with_any_value).prog [46]) (H := K59.hk) (ob := K59.ob) (M := 20000)
    (loose := K59.loose) (d := HandSHeadRun.topDef (OpenLaw.row PySem.Challenge.rw_stepsunread_k59_errors_with_any_value).prog 46) (kwd := []) K59.ob_eq
    (by kernel_rfl) (fun s => by kernel_rfl) K59.run (by kernel_rfl) (by kernel_rfl) (by kernel_rfl) (by rfl) (by first | assumption | decide +kernel) (by decide +kernel) ⟨rfl, rfl, rfl, rfl, rfl, by decide +kernel⟩ ?hw ?hc
  case hw => w_witness2
  case hc =>
    refine V9.walk_ofG (l := PySem.Challenge.rw_stepsunread_k59_errors_with_any_value) (n := 63) (k := 5) (x := "_law_script") rfl (by decide) (by kernel_rfl) ⟨rfl, by decide, by decide⟩ ?F
    intro w mg fa h Y G hmg0
    obtain ⟨K, KX, c⟩ := Y
    have hmg : mg ("law" : PySem.Str) = some (.ref fa) := by
      have e : (HandSHeadRun.topDef (OpenLaw.row PySem.Challenge.rw_stepsunread_k59_errors_with_any_value).prog 46).name = ("law" : PySem.Str) := by kernel_rfl
      rw [← e]
      exact hmg0
    obtain ⟨fd, hb, hF⟩ := K59.all_mk (P := (PySem.Challenge.rw_stepsunread_k59_errors_with_any_value).prog) (w := w) KX G hmg c
    exact ⟨K, fd, K59.spLaw K, KX, hb, fun H a ns hl _ hS => ⟨a, ns, rfl, hS, hl, fun _ => rfl⟩, hF⟩
