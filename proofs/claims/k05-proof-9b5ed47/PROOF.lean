import PyProof.Rows.All
import Wide.All
import OpenK.AllK
import Wide.FinOn
import PyProof.EqAt
import PyProof.EqKinds
import PyProof.TupleCall
import HandS.ForExc
import HandS.ExcInit
import HandS.Defaults
import HandS.ForMost
import HandS.WordsExc
import KE.KExcIs
import HandS.IsInst
import HandS.ExcValue
import HandS.Exc
import PyProof.ReprRoads
import HandS.Evl
import HandS.DictComp
import HandS.Style
import HandS.Codes
import HandS.FStr
import HandS.Steps
import PyProof.Rows.StrSplitJoin
import PyProof.Rows.StrItems
import HandS.ClsMeth
import HandS.MakeKw
import HandS.OwnEq
import KE.KCallOwn
import PyProof.InstNe
import HandS.StrMore
import HandS.Text
import HandS.Lambda
import KE.DataEq
import PyProof.Rows.StrStep
import PyProof.StrLawsChain
import HandS.HeadHook1
import HandS.HeadHook2
import HandS.EndOwn
import KE.KNestM
import PyProof.Rows.StrMul
import PySem.Challenge.RW_emptypulls_k05_texts_of_trips
set_option Elab.async false
set_option linter.all false
set_option maxRecDepth 100000
set_option maxHeartbeats 4000000
namespace PySem
namespace OEXK
open PySem.W PySem.Calls PyProof.Rows PySem.HandSPX
section
variable {M : Model} {A : Around} {E : Value → Shared → Prop} {h : Heap} {g : Array GenState} {d : Drawn} {t : Nat} {os : OsState}
variable {nm q : Str} {C N : Addr} {bs bm bmB : List Value} {hdct : Bool} {sn : List Str} {sub : List Value} {ab : Bool} {col : Option Bool} {dd : Option Addr} {k0 k1 k2 k3 k5 : Option Value} {B newId initId : String}
theorem check_new_kw (F : ExcBaseFacts B newId initId bmB) (hT : ∀ X : String, bm.contains (.type X) = bmB.contains (.type X)) {rest : List Value} {kw : List (Str × Value)} {Q : Unit → Shared → Prop}
    (hC : h.get? C = some (excClassObj nm q C N bs bm hdct sn sub ab col dd k0 k1 k2 k3 k5 newId)) (hq : Q () ⟨h, g, d, t, os⟩) : wpAny M A (checkBuiltinCall newId ⟨.ref C :: rest, kw⟩) Q E ⟨h, g, d, t, os⟩ := by
  have hcont : (Value.ref C :: bm).contains (.type B) = true := by rw [List.contains_cons, hT, F.hasB, Bool.or_true]
  have hstar := F.noStar
  simp only [checkBuiltinCall, F.newKind, F.newSplit, F.newRow]
  repeat (first | refine wpAny_loadPart_at hC ?_ | (refine wpAny_isSubtype_exc hC ?_; rw [hcont]) | refine wpAny_staticBase_exc hC ?_ | refine wpAny_madeBy_exc hC ?_ | simp only [bne_self_eq_false, Bool.false_eq_true, if_false] | wp_step)
  exact hq
end
section
variable {prog : Program} {w : World} {A : Around} {E : Value → Shared → Prop} {R : Result → Shared → Prop} {h : Heap} {g : Array GenState} {d : Drawn} {t : Nat} {os : OsState}
variable {nm q : Str} {C N : Addr} {bs bm bmB : List Value} {hdct : Bool} {sn : List Str} {sub : List Value} {ab : Bool} {col : Option Bool} {dd : Option Addr} {k0 k1 k2 k3 k5 : Option Value} {B newId initId : String}
theorem new_kw (F : ExcBaseFacts B newId initId bmB) (hT : ∀ X : String, bm.contains (.type X) = bmB.contains (.type X)) {rest : List Value} {kw : List (Str × Value)}
    (hC : h.get? C = some (excClassObj nm q C N bs bm hdct sn sub ab col dd k0 k1 k2 k3 k5 newId))
    (hq : R (.ok (.ret (.ref (h.objs.size + 1)))) ⟨(h.push { cls := .type "tuple", data := .seq rest.toArray }).push
      { cls := .ref C, data := .fields #[.ref h.objs.size, .none, .none, .none, .bool false, .none] }, g, d, t, os⟩) (hrest : rest.length ≤ sizeLine) :
    codeAny (model prog w) A (.builtin newId ⟨.ref C :: rest, kw⟩) R ⟨h, g, d, t, os⟩ := by
  have hends := F.ends
  have hcB : (Value.ref C :: bm).contains (.type B) = true := by rw [List.contains_cons, hT, F.hasB, Bool.or_true]
  have hcA : (Value.ref C :: bm).contains (.type "AttributeError") = false := by rw [List.contains_cons, hT, F.noAttr]; rfl
  have hcN : (Value.ref C :: bm).contains (.type "NameError") = false := by rw [List.contains_cons, hT, F.noName]; rfl
  refine codeAny_builtinAt F.entry ?_
  unfold Builtin.«BaseException.__new__»
  refine wpAt_bind ?_
  show wpAt _ _ _ (stack >>= _) _ _ _
  refine wpAt_bind (wpAt_stack fun p below => wpAt_of_wpAny ?_)
  wp_walk
  refine wpAt_of_wpAny ?_
  rw [F.owner]
  repeat (first | with_reducible refine wpAny_madeHere_exc F.canon hC ?_ | with_reducible refine wpAny_loadPart_at hC ?_ | (with_reducible refine wpAny_isSubtype_exc hC ?_; first | rw [hcB] | rw [hcA] | rw [hcN]) | wp_step)
  show R _ _
  rw [Heap.size_push]
  exact hq

theorem type_call_kw (F : ExcBaseFacts B newId initId bmB) (hT : ∀ X : String, bm.contains (.type X) = bmB.contains (.type X)) {rest : List Value} {kw : List (Str × Value)} {fI : Addr} {Q : Fin → Shared → Prop}
    (hC : h.get? C = some (excClassObj nm q C N bs bm hdct sn sub ab col dd k0 k1 k2 k3 k5 newId))
    (hi : W.Looks (model prog w) h (typeLookup (.ref C) "__init__") (some (.ref fI))) (hb : ∀ self, W.Looks (model prog w) h (bindSpecial (.ref fI) self) (.ref fI, [self])) (hrest : rest.length ≤ sizeLine)
    (hq : codeAny (model prog w) A (.call (.ref fI) ⟨.ref (h.objs.size + 1) :: rest, kw⟩)
      (fun r s' => match r with | .ok (.ret v) => v = .none ∧ Q (.done (.ret (.ref (h.objs.size + 1)))) s' | .ok _ => False | .error e => E e s')
      ⟨(h.push (W.kdv_tup rest)).push (excO C h.objs.size), g, d, t, os⟩) :
    wpAny (model prog w) A (Builtin.«type.__call__» ⟨.ref C :: rest, kw⟩) Q E ⟨h, g, d, t, os⟩ := by
  repeat (first | with_reducible refine wpAny_loadPart_at hC ?_ | with_reducible refine wpAny_madeBy_exc hC ?_ | wp_step)
  refine codeAny_call_builtin_code (Code.quiet_builtin _ F.quiet) (check_new_kw F hT hC ?_)
  refine new_kw F hT hC ?_ hrest
  show wpAny _ _ _ _ _ _
  have k : ∀ b o, h.get? b = some o → ((h.push (W.kdv_tup rest)).push (excO C h.objs.size)).get? b = some o := fun b o e => Heap.get?_push_of_some _ (Heap.get?_push_of_some _ e)
  have hC₁ := k _ _ hC
  have hget : ((h.push (W.kdv_tup rest)).push (excO C h.objs.size)).get? (h.objs.size + 1) = some (excO C h.objs.size) := by heap_get
  have hcC : (Value.ref C :: bm).contains (.ref C) = true := by simp
  have i1 := hi.keeps k
  have b1 := (hb (.ref (h.objs.size + 1))).keeps k
  unfold isInstance
  repeat (first | with_reducible refine wpAny_loadPart_at hget ?_ | (with_reducible refine wpAny_isSubtype_exc hC₁ ?_; rw [hcC]) | wp_step)
  show wpAny _ _ (typeLookup (.ref C) _) _ _ _
  refine i1.at ?_
  refine wpAny_holding (wpAny_bind (b1.at ?_))
  refine wpAny_bind (wpAny_call (codeAny_mono hq fun r s' z => ?_))
  rcases r with e | (v | _ | _ | _) <;> first | exact z | exact z.elim | skip
  obtain ⟨rfl, z⟩ := z
  first
    | exact wpAny_pure (wpAny_pure z)
    | (wp_walk; exact z)

theorem call_kw (F : ExcBaseFacts B newId initId bmB) (hT : ∀ X : String, bm.contains (.type X) = bmB.contains (.type X)) {rest : List Value} {kw : List (Str × Value)} {fI : Addr}
    (hC : h.get? C = some (excClassObj nm q C N bs bm hdct sn sub ab col dd k0 k1 k2 k3 k5 newId))
    (hi : W.Looks (model prog w) h (typeLookup (.ref C) "__init__") (some (.ref fI))) (hb : ∀ self, W.Looks (model prog w) h (bindSpecial (.ref fI) self) (.ref fI, [self])) (hrest : rest.length ≤ sizeLine)
    (hq : codeAny (model prog w) (A.under (.builtin "type.__call__" ⟨.ref C :: rest, kw⟩)) (.call (.ref fI) ⟨.ref (h.objs.size + 1) :: rest, kw⟩) (W.InitBack (h.objs.size + 1) R)
      ⟨(h.push (W.kdv_tup rest)).push (excO C h.objs.size), g, d, t, os⟩) :
    codeAny (model prog w) A (.call (.ref C) ⟨rest, kw⟩) R ⟨h, g, d, t, os⟩ := by
  have f1 := tc_lookup
  have f2 := tc_bind (.ref C)
  have hTy : (⟨h, g, d, t, os⟩ : Shared).TypeIs (.ref C) "type" := ⟨_, hC, rfl⟩
  refine codeAny_of_tree ?_
  show wpAny _ _ (callAny (.ref C) _) _ _ _
  repeat (any_goals (first | assumption | with_reducible refine wpAny_loadPart_at hC ?_ | wp_step))
  refine ⟨rfl, ?_⟩
  refine codeAny_call_builtin_at (Code.quiet_builtin _ (by decide +kernel)) entry_typeCall (wpAny_check_type_call_sub hC (type_call_kw F hT hC hi hb hrest ?_))
  refine codeAny_mono hq fun r s' z => ?_
  rcases r with e | (v | _ | _ | _) <;> exact z
end
end OEXK
end PySem

set_option Elab.async false
set_option linter.all false
set_option maxRecDepth 100000
set_option maxHeartbeats 2000000
namespace GL
open PySem PySem.Spec PyProof.Rows L2
/-! promises of defs that are kept wherever nothing is being shown (so that repr of a list, a tuple, a dict may be asked in them) -/
def Quiet (A : Around) : Prop := A.guards = some []
theorem Quiet.deeper {A : Around} (h : Quiet A) (env : Env) : Quiet (A.deeper env) := h
theorem Quiet.make {A : Around} (h : Quiet A) (C : Addr) (us : List Value) (kw : List (Str × Value)) : Quiet (A.under (.builtin "type.__call__" ⟨.ref C :: us, kw⟩)) := by
  unfold Quiet at *
  first
  | exact h
  | simpa [Around.under, Code.guards, Code.isGuard, guardIds, pushGuards] using h
theorem Quiet.in1 {A : Around} (h : Quiet A) : Quiet A.in1 := h
theorem quiet_caller : Quiet callerA := rfl

structure FnG (P : Program) (w : World) (K : PySem.W.Frag) (mg : Str → Option Value) (base : Heap) (CX : CXT) (k : Nat) (f : Addr) (fd : FuncData) (ps : List Str) (sp : Sp) : Prop where
  ln : ∀ vs H Q E, sp vs H Q E → vs.length = ps.length
  go : ∀ (A : Around), Quiet A → Room k A → ∀ (outer : List Env) (s : Shared) (H : Hp), Env0 P w K mg base A outer s H → ∀ (args : Args) (us : List Value) (vs : List V), BindsTo s fd args (ps.zip us) → Vals vs us →
    ∀ (Q : VK) (E : XK), sp vs H Q E → codeAny (model P w) A (.call (.ref f) args) (CR CX outer P w H s Q E) s
theorem of_ok {P : Program} {w : World} {K : PySem.W.Frag} {mg : Str → Option Value} {base : Heap} {CX : CXT} {k : Nat} {f : Addr} {fd : FuncData} {ps : List Str} {sp : Sp} (F : FnOk P w K mg base CX k f fd ps sp) : FnG P w K mg base CX k f fd ps sp :=
  ⟨F.len, fun A _ hr outer s H e0 args us vs hb hv Q E h => F.run A outer s H args us vs Q E hr e0 hb hv h⟩
theorem FnG.up {P : Program} {w : World} {K : PySem.W.Frag} {mg : Str → Option Value} {base : Heap} {CX : CXT} {j k : Nat} {f : Addr} {fd : FuncData} {ps : List Str} {sp : Sp} (F : FnG P w K mg base CX j f fd ps sp) (h : j ≤ k) : FnG P w K mg base CX k f fd ps sp :=
  ⟨F.ln, fun A hq hr => F.go A hq (hr.mono h)⟩

/-- what comes back of a callee -/
theorem back {X : Cx} {CX : CXT} {pins : List (Addr × Obj)} {σ : L2.St} {H : Hp} {s s' : Shared} {Q : VK} {E : XK} {r : Result} (I : Inv X pins σ H s) (hx : Passes CX X E) (h : CR CX X.stack X.prog X.w H s Q E r s') :
    match r with | .ok (.ret u) => EP X pins σ Q u s' | .ok _ => False | .error e => X.xe e s' := by
  cases r with
  | error e => exact hx pins σ H s e s' I h
  | ok fl => cases fl with
    | ret u => exact I.after h
    | next | brk | cont => exact h

section
variable {X : Cx} {CX : CXT} {k : Nat} {f : Addr} {fd : FuncData} {ps : List Str} {sp : Sp} {dvs : List V} {ds : List Value} {E : XK} {x : Str} {p pos : Pos} {e : Expr} {es : List Expr} {t : TA}
theorem run_g {pins : List (Addr × Obj)} {σ : L2.St} {H : Hp} {s : Shared} {Q : VK} {us : List Value} {vs : List V} (F : FnG X.prog X.w X.K X.mg X.base CX k f fd ps sp) (hq : Quiet X.A) (hr : Room k X.A) (hb : Binds X.K fd ps ds) (hd : Vals dvs ds)
    (hx : Passes CX X E) (I : Inv X pins σ H s) (r : Vals vs us) (h : sp (vs ++ dvs) H Q E) : wpAny (model X.prog X.w) X.A (call (.ref f) us) (EP X pins σ Q) X.xe s := by
  have r2 := r.append hd
  have n : (us ++ ds).length = ps.length := r2.length.symm.trans (F.ln _ _ _ _ h)
  refine wpAny_call (codeAny_mono (F.go X.A hq hr X.stack s H I.env0 ⟨us, []⟩ _ _ (hb s us I.kIn n) r2 Q E h) fun r s' z => ?_)
  have z2 := back I hx z
  cases r with
  | error e => exact z2
  | ok fl => cases fl with
    | ret u => exact z2
    | next | brk | cont => exact z2
/-- f(e, ..) -/
theorem pe_cg (F : FnG X.prog X.w X.K X.mg X.base CX k f fd ps sp) (hq : Quiet X.A) (hr : Room k X.A) (hg : Gl X x) (hm : X.mg x = some (.ref f)) (hk : PySem.W.keepIn X.K (.ref f) = true) (hb : Binds X.K fd ps ds) (hd : Vals dvs ds) (hx : Passes CX X E)
    (ha : PA X (e :: es) t) (hdb : (x == ("__debug__" : Str)) = false := by decide) (he : starEach (e :: es) X.env = (false, eval e X.env) :: starEach es X.env := by rfl) (hpl : (backTo pos (starEach es X.env)).any (·.1) = false := by rfl) :
    PE X (.Call (.Name x p) (e :: es) [] pos) (tCall sp dvs E t) :=
  ⟨fun pins s σ H Q I h => wpAny_Call_Name_kw (ld_glob I hg hm (PySem.W.callWith_K (h₀ := X.base) I.ok.mod.kin hk (thn (ha.run pos pins s σ H _ I h) fun us s1 ⟨vs, H1, I1, r, q⟩ => ⟨I1.kIn, run_g F hq hr hb hd hx I1 r q⟩) he hpl) hdb)⟩
/-- f() -/
theorem pe_cg0 (F : FnG X.prog X.w X.K X.mg X.base CX k f fd ps sp) (hq : Quiet X.A) (hr : Room k X.A) (hg : Gl X x) (hm : X.mg x = some (.ref f)) (hk : PySem.W.keepIn X.K (.ref f) = true) (hb : Binds X.K fd ps ds) (hd : Vals dvs ds) (hx : Passes CX X E)
    (hdb : (x == ("__debug__" : Str)) = false := by decide) : PE X (.Call (.Name x p) [] [] pos) (tCall sp dvs E tNil) :=
  ⟨fun pins s σ H Q I h => wpAny_Call_Name_kw (ld_glob I hg hm (PySem.W.callWith_K0 I.kIn hk (run_g (us := []) (vs := []) F hq hr hb hd hx I .nil h)) hdb)⟩
end

/-- a def of the text by its body -/
theorem fn_g {CX : CXT} {P : Program} {w : World} {K : PySem.W.Frag} {mg : Str → Option Value} {base : Heap} {k : Nat} {f : Addr} {name qual : Str} {params : Arguments} {body : List Stmt} {scope : Scope} {dV kV doc pm cdv ct oc : Value} {an od : Option Addr}
    {osl : Array (Option Value)} {N ps : List Str} {sp : Sp} (lk : K.lookup f = some ⟨oc, od, .func (PySem.W.fnOf name qual params body scope dV kV doc pm an cdv ct), osl⟩) (hcd : PySem.W.codeIn K cdv qual = true) (S : FnScope N ps scope)
    (ln : ∀ vs H Q E, sp vs H Q E → vs.length = ps.length)
    (hb : ∀ (A : Around) (outer : List Env) (s : Shared) (H : Hp) (vs : List V) (Q : VK) (E : XK), Quiet A → Room k (A.deeper (envOfC qual scope s.heap.objs.size f cdv)) → sp vs H Q E →
      ∃ t, PSs (cxOf CX P w K mg base N qual scope f cdv A outer s H E) body t ∧ t { nx := fun _ H' => Q .non H', rt := Q } (start N vs) H) :
    FnG P w K mg base CX (k + 1) f (PySem.W.fnOf name qual params body scope dV kV doc pm an cdv ct) ps sp := by
  constructor
  · exact ln
  intro A hq hr outer s H e0 args us vs bd rv Q E h
  have hl := ln _ _ _ _ h
  have inK : K.In s.heap := e0.mod.kin.keeps fun b o z => (e0.bs b o z).1
  have nol : s.heap.NoLimit := e0.mod.nolimit.keeps fun b o z => (e0.bs b o z).1
  refine codeAny_call_function hr.depth (inK _ _ lk) rfl S.co S.gen rfl (PySem.W.codeRec_of inK hcd) (bd _ _ _ _ ?_)
  refine wpAny_newFunctionEnv_cells S.kind ?_ fun env he s1 x => ?_
  · rintro ⟨n, v⟩ hy
    rcases S.par n (List.of_mem_zip hy).1 with q | q
    · exact Or.inl q
    · exact Or.inr ⟨q, PySem.W.cellsFrom_some _ _ _ (Or.inl q)⟩
  cases he
  obtain ⟨t, ht, run⟩ := hb A outer s H vs Q E hq (hr.deeper _) h
  have J : Inv (cxOf CX P w K mg base N qual scope f cdv A outer s H E) [] (start N vs) H s1 := inv_start S hr.hd e0 hl rv x
  refine ⟨nol.keeps x.toInCall.keep, codeAny_func (wpAny_mono (ht.run [] s1 (start N vs) H _ J run) (fun fl s' z => ?_) fun e s' z => z)⟩
  cases fl with
  | ret u => obtain ⟨v, σ', H', J', r', q'⟩ := z; exact ⟨v, H', J'.os, J'.bare, J'.base, J'.hok, r', q'⟩
  | next => obtain ⟨σ', H', J', q'⟩ := z; exact ⟨V.non, H', J'.os, J'.bare, J'.base, J'.hok, rfl, q'⟩
  | brk => obtain ⟨_, _, _, q'⟩ := z; exact q'.elim
  | cont => obtain ⟨_, _, _, q'⟩ := z; exact q'.elim
/-- the same by the short word for a def; nothing is raised out of it -/
theorem okG {P : Program} {w : World} {K : PySem.W.Frag} {mg : Str → Option Value} {base : Heap} {x qual : Str} {st : Stmt} {f : Addr} {fd : FuncData} {N ps : List Str} {k : Nat} {sp : Sp} (F : Fun K x qual st f fd) (S : FnScope N ps (defScope st))
    (ln : ∀ vs H Q E, sp vs H Q E → vs.length = ps.length)
    (hb : ∀ (cdv : Value) (A : Around) (outer : List Env) (s : Shared) (H : Hp) (vs : List V) (Q : VK) (E : XK), Quiet A → Room k (A.deeper (envOfC qual (defScope st) s.heap.objs.size f cdv)) → sp vs H Q E →
      ∃ t, PSs (cxOf CX0 P w K mg base N qual (defScope st) f cdv A outer s H E).nox (defBody st) t ∧ t { nx := fun _ H' => Q .non H', rt := Q } (start N vs) H) : FnG P w K mg base CX0 (k + 1) f fd ps sp := by
  obtain ⟨oc, od, kV, doc, pm, an, cdv, ct, osl, rfl, lk, hcd⟩ := F.ex
  exact fn_g lk hcd S ln fun A outer s H vs Q E hq hr h => let ⟨t, ht, q⟩ := hb cdv A outer s H vs Q E hq hr h; ⟨t, ht.nox, q⟩

/-- the modules' own table stands in the heap, a dict -/
def SysAt (h : Heap) : Prop := ∃ m, h.Ns sysModules m
/-! the end of a law's row -/
section
variable {P : Program} {w : World} {K : PySem.W.Frag} {mg mb : Str → Option Value} {CX : CXT} {k : Nat} {fa a : Addr} {fd : FuncData} {x : Str} {sp : Sp} {s₁ : Shared} {vs : List Value} {ns : List Int}
theorem core_g (KX : K.In s₁.heap) (hns : s₁.heap.Ns mainGlobals mg) (hb : s₁.heap.Ns builtinsNs mb) (hbb : ∀ x : Str, x ≠ "__name__" → mb x = bootBuiltins x) (hlim : s₁.heap.NoLimit) (hg : s₁.gens = #[])
    (ha : s₁.heap.get? a = some { cls := .type "list", data := .seq vs.toArray }) (hr : Room k callerA)
    (hsy : SysAt s₁.heap) (F : ∀ base : Heap, K.In base → base.Ns mainGlobals mg → SysAt base → FnG P w K mg base CX k fa fd [x] sp) (bd : ∀ (s : Shared) (u : Value), BindsTo s fd ⟨[u], []⟩ [(x, u)])
    (hsp : ∀ H : Hp, Only H → SqL K H a (ns.map V.int) → sp [.ref a] H (fun v _ => v = .bl true) fun _ _ _ => False)
    (hCX : ∀ H e s', CX [] H s₁ (fun _ _ _ => False) e s' → False)
    (H : Hp) (hO : Only H) (hS : SqL K H a (ns.map V.int)) (ok : HOk P w H s₁.heap) (one : ∀ b u, H b = some u → b = a ∧ K.lookup a = none) :
    codeAny (model P w) callerA (.call (.ref fa) ⟨[.ref a], []⟩) (fun r s' => r = .ok (.ret (.bool true)) ∧ OldK s₁.heap s'.heap ∧ s'.os = s₁.os ∧ AllBare s'.gens) s₁ := by
  have free : ∀ b, (∀ u, H b ≠ some u) → H b = none := fun b h => by
    cases q : H b with
    | none => rfl
    | some u => exact absurd q (h u)
  have ns2 : ∀ {b : Addr} {m : Str → Option Value}, s₁.heap.Ns b m → (hidT s₁.heap H).Ns b m := by
    rintro b m ⟨o, es, ep, e, d, r⟩
    refine ⟨o, es, ep, hidT_get e (free b fun u q => ?_), d, r⟩
    obtain ⟨rfl, _⟩ := one b u q
    rw [ha] at e
    cases e
    simp at d
  have kin : K.In (hidT s₁.heap H) := fun b o e => hidT_get (KX b o e) (free b fun u q => by
    obtain ⟨rfl, z⟩ := one b u q
    rw [z] at e
    cases e)
  obtain ⟨mc, l1, l2⟩ := hlim
  have e0 : Env0 P w K mg (hidT s₁.heap H) callerA [] s₁ H :=
    { frames := rfl, mod := ⟨kin, ns2 hns, ⟨mb, ns2 hb, hbb⟩, ⟨mc, ns2 l1, l2⟩⟩, bs := fun b o e => of_hidT e, bsz := Nat.le_of_eq (hidT_size _ _), funs := trivial, frf := (fun b z => nomatch z), hok := ok, bare := .of_eq hg }
  have go := (F _ kin (ns2 hns) (hsy.elim fun m h => ⟨m, ns2 h⟩)).go callerA quiet_caller hr [] s₁ H e0 ⟨[.ref a], []⟩ [.ref a] [.ref a] (bd s₁ (.ref a)) (.cons rfl .nil) _ _ (hsp H hO hS)
  refine codeAny_mono go fun r s' z => ?_
  cases r with
  | error e => exact (hCX H e s' z).elim
  | ok fl => cases fl with
    | next | brk | cont => exact False.elim z
    | ret u =>
      obtain ⟨v, H', os, bare, un, ok', rv, q⟩ := z
      cases (show v = V.bl true from q)
      cases (show u = Value.bool true from rv)
      refine ⟨rfl, OldK.of_keep fun b o e => ?_, os, bare⟩
      cases q : H b with
      | none => exact un.keep b o e q (fun z => nomatch z) (fun z => nomatch z)
      | some u =>
        rcases hO b with z | ⟨ob, xs, z⟩
        · rw [z] at q; cases q
        · have e1 := (ok b _ z).1
          have e2 := (ok' b _ (un.frzs b ob _ z)).1
          rw [e] at e1
          cases e1
          exact e2
theorem law_g (KX : K.In s₁.heap) (hns : s₁.heap.Ns mainGlobals mg) (hb : s₁.heap.Ns builtinsNs mb) (hbb : ∀ x : Str, x ≠ "__name__" → mb x = bootBuiltins x) (hlim : s₁.heap.NoLimit) (hg : s₁.gens = #[])
    (ha : s₁.heap.get? a = some { cls := .type "list", data := .seq vs.toArray }) (hi : IntsAre vs ns) (hl : ns.length ≤ sizeLine) (hr : Room k callerA)
    (hsy : SysAt s₁.heap) (F : ∀ base : Heap, K.In base → base.Ns mainGlobals mg → SysAt base → FnG P w K mg base CX k fa fd [x] sp) (bd : ∀ (s : Shared) (u : Value), BindsTo s fd ⟨[u], []⟩ [(x, u)])
    (hsp : ∀ H : Hp, Only H → SqL K H a (ns.map V.int) → sp [.ref a] H (fun v _ => v = .bl true) fun _ _ _ => False)
    (hCX : ∀ H e s', CX [] H s₁ (fun _ _ _ => False) e s' → False) :
    codeAny (model P w) callerA (.call (.ref fa) ⟨[.ref a], []⟩) (fun r s' => r = .ok (.ret (.bool true)) ∧ OldK s₁.heap s'.heap ∧ s'.os = s₁.os ∧ AllBare s'.gens) s₁ := by
  have rv := vals_ints hi
  have core := core_g KX hns hb hbb hlim hg ha hr hsy F bd hsp hCX
  cases hk : K.lookup a with
  | some o =>
    have e := KX a o hk
    rw [ha] at e
    cases e
    exact core (fun _ => none) (fun _ => Or.inl rfl) (Or.inr ⟨_, vs.toArray, _, hk, rfl, rfl, rfl, by rw [List.size_toArray, hi.length]; exact hl, by simpa using rv⟩) (fun b u z => nomatch z) (fun b u z => nomatch z)
  | none =>
    have at1 : ∀ b u, (fun b => if b = a then some (HO.frz { cls := .type "list", data := .seq vs.toArray } (.lst (ns.map V.int))) else none : Hp) b = some u → b = a ∧ u = HO.frz { cls := .type "list", data := .seq vs.toArray } (.lst (ns.map V.int)) := fun b u z => by
      by_cases q : b = a
      · have z' := (if_pos q).symm.trans z
        cases z'
        exact ⟨q, rfl⟩
      · have z' := (if_neg q).symm.trans z
        cases z'
    refine core _ (fun b => ?_) (Or.inl (Or.inr ⟨{ cls := .type "list", data := .seq vs.toArray }, if_pos rfl⟩)) (fun b u z => ?_) (fun b u z => ⟨(at1 b u z).1, hk⟩)
    · by_cases q : b = a
      · exact Or.inr ⟨_, _, if_pos q⟩
      · exact Or.inl (if_neg q)
    · obtain ⟨rfl, rfl⟩ := at1 b u z
      exact ⟨ha, by rw [List.length_map]; exact hl, vs, _, rv, ha⟩
end
theorem walk_g {l : PySem.W.OpenLaw} {n k : Nat} {q : Program} {loose : List Str} {XP : (Str → Option Value) → Heap → Prop} {YP : World → Heap → Prop} {d : DefRec} {K : Params → PySem.W.Frag} {CX : World → CXT} {sp : World → Sp} {x : Str}
    (hn : l.most = some n) (hn2 : n ≤ sizeLine) (hdf : d.params.defaults = []) (hr : Room k callerA) (hY : ∀ (w : World) (h : Heap), YP w h → (K w.params).In h) (hi : importsNone q = true)
    (F : ∀ (w : World) (mg : Str → Option Value) (fa : Addr) (h : Heap), (K w.params).In h → h.Ns mainGlobals mg → mg d.name = some (.ref fa) →
      ∃ fd : FuncData, (∀ (s : Shared) (u : Value), BindsTo s fd ⟨[u], []⟩ [(x, u)]) ∧ ∀ base : Heap, (K w.params).In base → base.Ns mainGlobals mg → SysAt base → FnG l.prog w (K w.params) mg base (CX w) k fa fd [x] (sp w))
    (hsp : ∀ (w : World) (H : Hp) (a : Addr) (ns : List Int), ns.length ≤ n → Only H → SqL (K w.params) H a (ns.map V.int) → sp w [.ref a] H (fun v _ => v = .bl true) fun _ _ _ => False)
    (hCX : ∀ (w : World) (H : Hp) (s : Shared) (e : Value) (s' : Shared), CX w [] H s (fun _ _ _ => False) e s' → False) :
    PySem.W.WalkO q loose XP YP l.row.toRowW d [] (fun f vs => PySem.call f vs) := by
  refine Att.attach_call hn hdf fun w s₀ s₁ mg mb fa o pm cd doc a vs ns G Y ho hd hcd hmg hobj hints hlen hg => ?_
  have KX := hY w _ Y
  obtain ⟨fd, bd, hF⟩ := F w mg fa _ KX G.T.g hmg
  exact law_g KX G.T.g G.T.b G.T.builtins G.T.nolimit hg hobj hints (Nat.le_trans hlen hn2) hr ((G.T.seer hi).2.elim fun m h => ⟨m, h.1⟩) hF bd (fun H hO hS => hsp w H a ns hlen hO hS) fun H e s' => hCX w H s₁ e s'
end GL

set_option Elab.async false
set_option linter.all false
set_option maxRecDepth 100000
set_option maxHeartbeats 4000000
namespace L2
open PySem PySem.Spec PyProof.Rows
/-- the class at C is an own error whose own __init__ stands at fI -/
structure OMk (K : PySem.W.Frag) (C fI : Addr) : Prop where
  o : OexC K C
  i : PySem.W.findIn K (.ref C) "__init__" = some (some (.ref fI))
  t : PySem.W.typeIn K (.ref fI) = some (.type "function")
/-- C(e, .., k = v, ..), a new error as a value -/
def tOex (C : Addr) (n m : Nat) (sp : Sp) (gV : List V → List V → List V) (E : XK) (t tk : TA) : TE := fun σ H Q => t σ H fun vs H1 => tk σ H1 fun zs H2 => vs.length = n ∧ zs.length = m ∧ ∀ a, H2 a = none →
  sp (gV (.ref a :: vs) zs) (upd H2 a (exo a C none)) (fun v H3 => v = .non ∧ Q (.ref a) H3) E
section
variable {X : Cx} {CX : CXT} {k n : Nat} {fI C : Addr} {fd : FuncData} {ps ks : List Str} {sp : Sp} {E : XK} {x : Str} {p pos : Pos} {e : Expr} {es : List Expr} {kws : List Keyword} {t tk : TA} {g : List Value → List Value → List Value} {gV : List V → List V → List V}
theorem run_oex {pins : List (Addr × Obj)} {σ : St} {H : Hp} {s : Shared} {Q : VK} {us ws : List Value} {vs zs : List V} (M : OMk X.K C fI) (F1 : GL.FnG X.prog X.w X.K X.mg X.base CX k fI fd ps sp) (hq : GL.Quiet X.A) (hr : Room (k + 1) X.A) (hb : KBn X.K fd ps (n + 1) ks g gV)
    (hx : Passes CX X E) (I : Inv X pins σ H s) (r : Vals vs us) (rz : Vals zs ws) (l1 : vs.length = n) (l2 : zs.length = ks.length) (hz : n ≤ 1000)
    (h : ∀ a, H a = none → sp (gV (.ref a :: vs) zs) (upd H a (exo a C none)) (fun v H2 => v = .non ∧ Q (.ref a) H2) E) :
    wpAny (model X.prog X.w) X.A (call (.ref C) us (ks.zip ws)) (EP X pins σ Q) X.xe s := by
  obtain ⟨nm, q, N, bs, bm, sn, sub, ab, col, dd, k0, k1, k2, k3, k5, hC, hbm⟩ := M.o.cls
  obtain ⟨hp, g', dr, tk, os⟩ := s
  have hsz : hp.objs.size ≤ hp.objs.size + 1 := Nat.le_succ _
  have hn : H (hp.objs.size + 1) = none := I.hok.fresh hsz
  have hsp := h (hp.objs.size + 1) hn
  have kk : ∀ b o, hp.get? b = some o → ((hp.push (PySem.W.kdv_tup us)).push (PySem.HandSPX.excO C hp.objs.size)).get? b = some o := fun b o e => Heap.get?_push_of_some _ (Heap.get?_push_of_some _ e)
  have hget : ((hp.push (PySem.W.kdv_tup us)).push (PySem.HandSPX.excO C hp.objs.size)).get? (hp.objs.size + 1) = some (PySem.HandSPX.excO C hp.objs.size) := by heap_get
  have I2 : Inv X pins σ (upd H (hp.objs.size + 1) (exo (hp.objs.size + 1) C none)) ⟨(hp.push (PySem.W.kdv_tup us)).push (PySem.HandSPX.excO C hp.objs.size), g', dr, tk, os⟩ :=
    I.laid (t' := tk) (a := hp.objs.size + 1) (o := exo (hp.objs.size + 1) C none) (h' := (hp.push (PySem.W.kdv_tup us)).push (PySem.HandSPX.excO C hp.objs.size)) kk hsz (exo_ok hget)
  have r1 : Vals (V.ref (hp.objs.size + 1) :: vs) (Value.ref (hp.objs.size + 1) :: us) := .cons rfl r
  have r2 := hb.rel r1 rz
  have e1 : (Value.ref (hp.objs.size + 1) :: us).length = n + 1 := r1.length.symm.trans (congrArg Nat.succ l1)
  have e2 : ws.length = ks.length := rz.length.symm.trans l2
  have hus : us.length ≤ sizeLine := by
    rw [← Paired.length r, l1, sizeLine_eq]
    omega
  refine wpAny_call (PySem.OEXK.call_kw F.excBase_ValueError (fun Y => PySem.HandSPX.refsVE_contains Y bm hbm) (I.kIn _ _ hC) (PySem.W.looks_findIn I.kIn M.i) (fun self => PySem.W.bind_fn I.kIn self M.t) hus
    (codeAny_mono (F1.go _ (hq.make C us (ks.zip ws)) (hr.make C us (ks.zip ws)) X.stack _ _ (I2.env0.make C us (ks.zip ws)) ⟨Value.ref (hp.objs.size + 1) :: us, ks.zip ws⟩ (g (Value.ref (hp.objs.size + 1) :: us) ws) _ (hb.to _ (Value.ref (hp.objs.size + 1) :: us) ws I2.kIn e1 e2) r2 _ E hsp) fun r s' hq' => ?_))
  cases r with
  | error er => exact hx pins σ _ _ er s' I2 hq'
  | ok fl =>
    cases fl with
    | ret u =>
      obtain ⟨v, H', I3, rv, ev, q3⟩ := I2.after hq'
      subst ev
      exact ⟨rv, ⟨V.ref (hp.objs.size + 1), H', I3, rfl, q3⟩⟩
    | next => exact False.elim hq'
    | brk => exact False.elim hq'
    | cont => exact False.elim hq'
/-- C(k = v, ..) -/
theorem pe_oexK0 (M : OMk X.K C fI) (F1 : GL.FnG X.prog X.w X.K X.mg X.base CX k fI fd ps sp) (hq : GL.Quiet X.A) (hr : Room (k + 1) X.A) (hg : Gl X x) (hm : X.mg x = some (.ref C)) (hb : KBn X.K fd ps 1 ks g gV) (hx : Passes CX X E) (hkw : PK X kws tk)
    (hall : (backToKw pos (keywordEach kws X.env)).all (·.1.isSome) = true := by rfl) (hks : (backToKw pos (keywordEach kws X.env)).filterMap (·.1) = ks := by rfl) (hdb : (x == ("__debug__" : Str)) = false := by decide)
    (hpl : ((backTo pos (starEach [] X.env)).any (·.1) || (backToKw pos (keywordEach kws X.env)).any (·.1.isNone)) = false := by rfl) :
    PE X (.Call (.Name x p) [] kws pos) (tOex C 0 ks.length sp gV E tNil tk) := by
  refine ⟨fun pins s σ H Q I h => ?_⟩
  refine wpAny_Call_Name_kw (ld_glob I hg hm ?_ hdb)
  refine PySem.W.callWith_KW0 (h₀ := X.base) I.ok.mod.kin M.o.kC hall ?_ hpl
  refine thn (hkw.run pos pins s σ H _ I h) fun ws s2 ⟨zs, H2, I2, rz, l1, l2, q2⟩ => ⟨I2.kIn, ?_⟩
  rw [hks]
  exact run_oex (us := []) (vs := []) M F1 hq hr hb hx I2 .nil rz rfl l2 (Nat.zero_le _) q2
/-- C(e, ..) -/
theorem pe_oex (M : OMk X.K C fI) (F1 : GL.FnG X.prog X.w X.K X.mg X.base CX k fI fd ps sp) (hq : GL.Quiet X.A) (hr : Room (k + 1) X.A) (hg : Gl X x) (hm : X.mg x = some (.ref C)) (hb : KBn X.K fd ps (n + 1) [] g gV) (hx : Passes CX X E) (hz : n ≤ 1000) (ha : PA X (e :: es) t)
    (hdb : (x == ("__debug__" : Str)) = false := by decide) (he : starEach (e :: es) X.env = (false, eval e X.env) :: starEach es X.env := by rfl) (hpl : (backTo pos (starEach es X.env)).any (·.1) = false := by rfl) :
    PE X (.Call (.Name x p) (e :: es) [] pos) (tOex C n 0 sp gV E t tNil) := by
  refine ⟨fun pins s σ H Q I h => ?_⟩
  refine wpAny_Call_Name_kw (ld_glob I hg hm ?_ hdb)
  refine PySem.W.callWith_K (h₀ := X.base) I.ok.mod.kin M.o.kC (thn (ha.run pos pins s σ H _ I h) fun us s1 ⟨vs, H1, I1, r, l1, l2, q⟩ => ⟨I1.kIn, ?_⟩) he hpl
  exact run_oex (ks := []) (ws := []) (zs := []) M F1 hq hr hb hx I1 r .nil l1 l2 hz q
/-- an own error class without an own __init__, called with nothing: a new error -/
theorem pe_exc0 {bmB : List Value} {B newId initId : String} (F : ExcBaseFacts B newId initId bmB) (q : PySem.W.excIn X.K C bmB newId = true) (gC : X.mg x = some (.ref C)) (kC : PySem.W.keepIn X.K (.ref C) = true) (hg : Gl X x)
    (hdb : (x == ("__debug__" : Str)) = false := by decide) :
    PE X (.Call (.Name x p) [] [] pos) (fun σ H Q => ∀ a, H a = none → Q (.ref a) (upd H a (exo a C none))) := by
  refine ⟨fun pins s σ H Q I h => ?_⟩
  refine wpAny_Call_Name_kw (ld_glob I hg gC ?_ hdb)
  refine PySem.W.callWith_K0 I.kIn kC ?_
  show wpAny _ _ (call (.ref C) []) _ _ _
  obtain ⟨bm, N, nm, qn, bs, hdct, sn, sub, ab, col, dd, k0, k1, k2, k3, k5, mN, hC, hN, hni, T⟩ := exc_obj I.kIn q
  refine wpAny_call_exc_subT F T hC hN hni (fun h' a hm => ?_) (by show 0 ≤ sizeLine; exact Nat.zero_le _)
  have hn : H a = none := I.hok.gone hm.new
  obtain ⟨t, ht, _, _⟩ := hm.there
  exact ⟨.ref a, upd H a (exo a C none), I.laidN hm.keeps hm.new hn (exo_ok ht), rfl, h a hn⟩
end

/-! ### what is read off such an error -/
/-- what its class must say besides -/
structure OGet (K : PySem.W.Frag) (C : Addr) : Prop where
  hg : PySem.W.findIn K (.ref C) "__getattribute__" = some (some (.builtin "BaseException.__getattribute__"))
  hk : PySem.W.findIn K (.ref C) "__getattr__" = some none
  hs : PySem.W.subIn K (.ref C) (.type "BaseException") = some true
  hc : (PySem.W.clsIn K C).isSome = true
  hd : PySem.W.hasDictIn K C = true
  ha : PySem.W.findIn K (.ref C) "__class__" = some (some (.builtin "object.__class__"))
  hn : PySem.W.specialIn K (.builtin "object.__class__") "__get__" = some (some (.builtin "getset_descriptor.__get__"))
  ht : PySem.W.takesIn K (.builtin "object.__class__") = some true
  hm : PySem.W.mroIn K C (.type "object") = some true
/-- e.f, e an error of the class at C with the dict at dx -/
def tOfl (K : PySem.W.Frag) (f : Str) (te : TE) : TE := fun σ H Q => te σ H fun x H1 => ∃ (a C dx : Addr) (fs : List (Str × V)) (v : V), x = .ref a ∧ OGet K C ∧ PySem.W.findIn K (.ref C) f = some none ∧
  H1 a = some (exo a C (some dx)) ∧ H1 dx = some (exd dx fs) ∧ fs.lookup f = some v ∧ Q v H1
section
variable {X : Cx} {e : Expr} {te : TE} {f : Str} {pos : Pos}
theorem pe_ofl (he : PE X e te) (hb : attributeBase e f X.env (eval e X.env) = eval e X.env := by rfl) : PE X (.Attribute e f pos) (tOfl X.K f te) := by
  refine ⟨fun pins s σ H Q I h => ?_⟩
  refine attr_of hb (thn (he.run pins s σ H _ I h) fun u s1 hh => ?_)
  obtain ⟨x, H1, I1, rx, a, C, dx, fs, v, ex, T, hno, ea, ed, hl, q⟩ := hh
  subst ex
  obtain rfl : u = Value.ref a := rx
  obtain ⟨t1, ho⟩ := exo_at I1.hok ea
  obtain ⟨mA, hns, rel⟩ := exd_at I1.hok ed
  obtain ⟨od, hod, hlk⟩ := lookIn_ns hns
  obtain ⟨u, hu, ru⟩ := RelO.some_of (v := v) (o := mA f) (by rw [← hl]; exact rel f)
  have J : PySem.W.InstAt s1.heap a { cls := .ref C, dict := some dx, data := .fields #[.ref t1, .none, .none, .none, .bool false, .none] } C (some od) := ⟨ho, rfl, rfl, hod⟩
  exact HandSPX.exc_get I1.kIn J T.hg T.hk T.hs (PySem.W.findObj_own T.hd hno rfl (by rw [hlk, hu])) (handed_of ru) ⟨v, H1, I1.tok _, ru, q⟩
/-- isinstance(e, c) -/
def rIsO (K : PySem.W.Frag) : List V → Hp → VK → Prop := fun xs H Q => ∃ (a C : Addr) (d : Option Addr) (c : V) (u : Value) (b : Bool), xs = [.ref a, c] ∧ ClsV c u ∧ OGet K C ∧ H a = some (exo a C d) ∧ (∀ dx, d = some dx → ∃ fs, H dx = some (exd dx fs)) ∧
  PySem.W.kitOne K (.ref C) u = some b ∧ Q (.bl b) H
theorem call_isO : CallR X (.builtin "isinstance") (rIsO X.K) := by
  intro pins s σ H xs us Q I r h
  obtain ⟨a, C, d, c, u, b, rfl, kc, T, ea, ed, e, q⟩ := h
  obtain ⟨u1, u2, rfl, r1, r2⟩ := vals2 r
  have e2 := kc.eq r2
  subst e2
  obtain rfl : u1 = Value.ref a := r1
  obtain ⟨t1, ho⟩ := exo_at I.hok ea
  have J : ∃ od, PySem.W.InstAt s.heap a { cls := .ref C, dict := d, data := .fields #[.ref t1, .none, .none, .none, .bool false, .none] } C od := by
    cases d with
    | none => exact ⟨none, ho, rfl, rfl, trivial⟩
    | some dx =>
      obtain ⟨fs, hd⟩ := ed dx rfl
      obtain ⟨mA, hns, rel⟩ := exd_at I.hok hd
      obtain ⟨od, hod, hlk⟩ := lookIn_ns hns
      exact ⟨some od, ho, rfl, rfl, hod⟩
  obtain ⟨od, J⟩ := J
  exact PySem.W.kia_one (PySem.W.kitx_exc T.hc T.hg T.hk T.hs T.ha T.hn T.ht T.hm) I.kIn J e (fun z => nomatch z) fun tk => ⟨.bl b, H, I.tok tk, rfl, q⟩
end
end L2

set_option Elab.async false
set_option linter.all false
set_option maxRecDepth 100000
set_option maxHeartbeats 2000000
namespace GL
open PySem PySem.Spec PyProof.Rows L2
/-! an error that was caught and is kept behind the clause: tracked from then on by its class and its dict -/
def exk (e C : Addr) (d : Option Addr) : HO := .ext fun g => ∃ (ob : Obj) (vs : Array Value), g.get? e = some ob ∧ ob.cls = .ref C ∧ ob.dict = d ∧ ob.data = .fields vs
theorem exk_ok {P : Program} {w : World} {H : Hp} {g : Heap} {e C : Addr} {d : Option Addr} {ob : Obj} {vs : Array Value} (h : g.get? e = some ob) (h1 : ob.cls = .ref C) (h2 : ob.dict = d) (h3 : ob.data = .fields vs) : ObjOk P w H g e (exk e C d) :=
  ⟨⟨ob, vs, h, h1, h2, h3⟩, ⟨ob, h⟩, fun g1 g2 ⟨u, us, k, k1, k2, k3⟩ st => ⟨u, us, st u k, k1, k2, k3⟩⟩
theorem exk_at {P : Program} {w : World} {H : Hp} {g : Heap} {e C : Addr} {d : Option Addr} (ok : HOk P w H g) (h : H e = some (exk e C d)) : ∃ (ob : Obj) (vs : Array Value), g.get? e = some ob ∧ ob.cls = .ref C ∧ ob.dict = d ∧ ob.data = .fields vs :=
  (show (∃ (ob : Obj) (vs : Array Value), g.get? e = some ob ∧ ob.cls = .ref C ∧ ob.dict = d ∧ ob.data = .fields vs) ∧ _ from ok e _ h).1
section
variable {X : Cx} {pins : List (Addr × Obj)} {σ : L2.St} {H : Hp} {s : Shared} {a : Addr} {o : HO}
/-- an object that came since the def's entry, untracked so far, is tracked -/
theorem track (I : Inv X pins σ H s) (na : H a = none) (ns : X.s_0.heap.get? a = none) (new : ObjOk X.prog X.w (upd H a o) s.heap a o) (nL : a ≠ X.env.locals) (nC : ∀ x c, X.env.cells.lookup x = some c → c ≠ a) (nP : ∀ p ∈ X.pn ++ pins, p.1 ≠ a) : Inv X pins σ (upd H a o) s := by
  have up : ∀ {b : Addr} {u : HO}, H b = some u → upd H a o b = some u := fun {b u} z => by rw [upd_ne (ne_of_none z na)]; exact z
  refine ⟨I.ok, I.os, I.bare, ⟨I.base.keep, I.base.slot, fun b u z n hx => ?_, I.base.there, fun b xs z => up (I.base.tups b xs z), fun b u v z => up (I.base.frzs b u v z), fun b ps z => ?_⟩, I.loc, I.cell, ?_, fun x c z => ?_, fun p hp => ?_, fun b u z => ?_, I.len⟩
  · have hb : b ≠ a := fun e => by rw [e, ns] at z; cases z
    rw [upd_ne hb]
    exact I.base.free b u z n hx
  · obtain ⟨more, hm⟩ := I.base.tbls b ps z
    exact ⟨more, up hm⟩
  · rw [upd_ne (Ne.symm nL)]; exact I.free
  · rw [upd_ne (nC x c z)]; exact I.freeC x c z
  · obtain ⟨p1, p2, p3⟩ := I.pin p hp
    exact ⟨p1, by rw [upd_ne (nP p hp)]; exact p2, p3⟩
  · by_cases hb : b = a
    · subst hb; rw [upd_same] at z; cases z; exact new
    · rw [upd_ne hb] at z
      exact (I.hok b u z).stay (fun _ _ _ q => q) (fun c q => up q) fun c xs q => up q
end
/-- what the clause 'except x as n' wishes, the error kept: slot i is n's -/
def wKp (K : PySem.W.Frag) (c : Value) (i : Nat) (ts : Addr → Value → Option Addr → TS) (Wout : WX) (D : Ends) : WX := fun cls d σ H =>
  ∃ b, PySem.W.exmOne K cls c = some b ∧ (b = true → ∃ C : Addr, cls = .ref C ∧ ∀ a, H a = none → ts a cls d { nx := fun σ' H' => H' a = none → D.nx (σ'.set i none) (upd H' a (exk a C d)), rt := fun _ _ => False, bk := fun _ _ => False, ct := fun _ _ => False } (σ.set i (some (.ref a))) H) ∧
    (b = false → Wout cls d σ H)
section
variable {X : Cx} {x n : Str} {c : Value} {i : Nat} {body suite : List Stmt} {b₀ : Stmt} {np pos pos' : Pos} {tb : WX → TS} {ts : Addr → Value → Option Addr → TS} {Wout : WX}
theorem ps_try_kept (sk : X.stack = X.env :: X.outer) (fr : X.env.frame = some X.env.locals) (xx0 : X.ex = []) (nd : X.N.Nodup) (iN : X.N[i]? = some n) (lc : X.env.kindOf n = some .local) (nm : Names X x c) (tk : Takes X Wout)
    (bd : ∀ (W : WX) (pn : List (Addr × Obj)) (xe : Value → Shared → Prop), Takes (X.tr pn xe) W → PassesOwn (model X.prog X.w) X.A X.env xe → PSs (X.tr pn xe) body (tb W))
    (su : ∀ (a : Addr) (oe : Obj) (cls : Value) (d : Option Addr) (pn : List (Addr × Obj)), Zc cls d oe → (∃ vs, oe.data = .fields vs) → PSs (X.suite a ((a, oe) :: pn)) (b₀ :: suite) (ts a cls d)) :
    PS X (.Try body [.ExceptHandler (some (.Name x np)) (some n) (b₀ :: suite) pos'] [] [] pos) (fun D σ H => tb (wKp X.K c i ts Wout D) D σ H) := by
  refine ⟨fun pins s σ H D I start => ?_⟩
  have okX := I.ok
  have frs2 : X.A.frames = some (X.env :: X.outer) := by rw [okX.frames, sk]
  have lc2 : Loc X.env.scope n := Or.inl lc
  refine wpAny_Try_except (wpAny_mono ((bd (wKp X.K c i ts Wout D) (X.pn ++ pins) (fun e t1 => wpAny (model X.prog X.w) X.A (noteFrame e X.env) (fun _ t2 => wpAny (model X.prog X.w) X.A (setFlight e none) (fun _ t3 =>
    wpAny (model X.prog X.w) X.A (handleBy e X.env [.ExceptHandler (some (.Name x np)) (some n) (b₀ :: suite) pos']) (SP X pins D) X.xe t3) X.xe t2) X.xe t1) (fun u t' xe => ?_) PassesOwn.looking).run [] s σ H D (I.toTry _) start) (fun f t1 z => ?_) fun e t1 z => z)
  · obtain ⟨a, B, sI, pins0, σ0, H0, cls, d, rfl, J0, grd, up0, sky0, na, os0, ag0, b, mt, yes, no⟩ := xe
    have J : Inv X pins σ0 H0 sI := J0.ofTry okX
    have sky1 : Sky B (X.env :: X.outer) a (Zc cls d) X.env.locals t'.heap := by rw [← sk]; exact sky0
    show wpAny (model X.prog X.w) X.A (noteFrame (.ref a) X.env) _ _ _
    refine Sky.land Zc.steady frs2 fr sky1 fun g3 fly up3 => ?_
    have J3 : Inv X pins σ0 H0 { t' with heap := g3 } := J.landed grd fly.1 (up0.trans up3) os0 ag0
    obtain ⟨oe, vs, he, hz, hd⟩ := fly.there
    have nfr : a ∉ frs (X.env :: X.outer) := fun hm => by
      obtain ⟨_, o', e', hnf⟩ := fly.2.2.1.mem hm
      rw [he] at e'; cases e'
      exact hnf _ hd
    have nL : a ≠ X.env.locals := fun z => nfr (List.mem_filterMap.mpr ⟨X.env, List.mem_cons_self, by rw [fr, z]⟩)
    have nF : a ∉ X.fs := fun hm => by
      obtain ⟨e, h1, h2⟩ := List.mem_filterMap.mp hm
      exact nfr (List.mem_filterMap.mpr ⟨e, List.mem_cons_of_mem _ h1, h2⟩)
    have nI : sI.heap.get? a = none := by
      cases q : sI.heap.get? a with
      | none => rfl
      | some o =>
        have z := grd a o q (by rw [sk]; exact nfr)
        rw [fly.2.1] at z
        cases z
    have n0 : X.s_0.heap.get? a = none := by
      cases q : X.s_0.heap.get? a with
      | none => rfl
      | some o =>
        obtain ⟨o', z⟩ := J.base.there a o q (by rw [xx0]; exact List.not_mem_nil)
        rw [nI] at z
        cases z
    have nC : ∀ y c, X.env.cells.lookup y = some c → c ≠ a := fun y c hc e => by
      obtain ⟨v, o, z, _⟩ := J.cell y c hc
      rw [e, nI] at z
      cases z
    have nP : ∀ p ∈ X.pn ++ pins, p.1 ≠ a := fun p hp e => by
      have z := (J.pin p hp).1
      rw [e, nI] at z
      cases z
    have S3 := J3.suite he hd na nL nF
    refine wpAny_handleBy_cons (codeAny_handlers_test ?_) (by intro q; cases q)
    have LM := PySem.W.exm_one (M := model X.prog X.w) J3.kIn (fun A Q E s k q => wpAny_typeOf_ref (k _ _ he) (by rw [hz.1]; exact q)) mt
    have look : ∀ {Q E : Value → Shared → Prop}, Q c { t' with heap := g3 } → wpAny (model X.prog X.w) (X.A.mark (some (.ref a))) (eval (.Name x np) X.env) Q E { t' with heap := g3 } := fun {Q E} q => by
      obtain ⟨hg, hdb, hm | ⟨hm, hv, hn⟩⟩ := nm
      · exact ld_glob (X := X.suite a ((a, oe) :: (X.pn ++ pins))) S3 hg hm q hdb
      · exact ld_blt (X := X.suite a ((a, oe) :: (X.pn ++ pins))) S3 hg hm hv q hn hdb
    refine look (LM.here ?_)
    cases b with
    | true =>
      obtain ⟨C, ec, yes⟩ := yes rfl
      refine codeAny_handlers_suite_as (HandSPX.lands_againZ fly fun g4 fly4 up4 => ?_)
      have J4 : Inv X pins σ0 H0 { t' with heap := g4 } := J.landed grd fly4.1 ((up0.trans up3).trans up4) os0 ag0
      obtain ⟨ou, us, hu, zu, du⟩ := fly4.there
      have S4 := J4.suite hu du na nL nF
      refine store_ok (X := X.suite a ((a, ou) :: (X.pn ++ pins))) (v := .ref a) S4 nd iN lc2 rfl (fun t5 S5 => ?_) (.inr lc)
      refine wpAny_mono ((su a ou cls d (X.pn ++ pins) zu ⟨_, du⟩).run [] t5 _ H0 _ S5 (yes a na)) (fun f t6 z => ?_) (fun _ _ z => False.elim z)
      cases f with
      | next =>
        obtain ⟨σ6, H6, S6, q6⟩ := z
        obtain ⟨p1, p2, _⟩ := S6.pin (a, ou) (by simp)
        have I6 : Inv X pins σ6 (upd H6 a (exk a C d)) t6 := track (S6.unsuite okX) p2 n0 (exk_ok p1 (zu.1.trans ec) zu.2 du) nL nC nP
        exact gone_ok I6 nd iN lc fun t7 J7 => ⟨_, _, J7, q6 p2⟩
      | brk => obtain ⟨_, _, _, q6⟩ := z; exact q6.elim
      | cont => obtain ⟨_, _, _, q6⟩ := z; exact q6.elim
      | ret u => obtain ⟨_, _, _, _, _, q6⟩ := z; exact q6.elim
    | false =>
      show wpAny _ X.A (handleBy (.ref a) X.env []) _ _ _
      refine wpAny_handleBy_nil ?_
      obtain ⟨_, _, _, ov, ws, T, oT, ts', hv, _, hw, h1, _⟩ := id fly
      unfold PySem.passOn
      refine wpAny_bind (wpAny_field hv hw h1 ?_)
      rw [if_neg (show ¬ ((Value.ref T == Value.none) = true) by simp)]
      have fin : wpAny (model X.prog X.w) X.A (setFlight (.ref a) X.env.frame) (fun _ t4 => wpAny (model X.prog X.w) X.A (throw (.ref a) : Sem Flow) (SP X pins D) X.xe t4) X.xe { t' with heap := g3 } := by
        rw [fr]
        refine HandSPX.setFlight_upZ fly fun g4 hh4 up4 => wpAny_throw (tk _ _ ?_)
        exact ⟨a, B, sI, pins, σ0, H0, cls, d, rfl, J, grd, (up0.trans up3).trans up4, .inr (.inr (by rw [sk]; exact hh4)), na, os0, ag0, no rfl⟩
      first
        | exact wpAny_bind (wpAny_pure (wpAny_bind fin))
        | exact wpAny_bind fin
  · cases f with
    | next => obtain ⟨σ1, H1, J1, q⟩ := z; exact wpAny_execs_nil ⟨σ1, H1, J1.ofTry okX, q⟩
    | brk => obtain ⟨σ1, H1, J1, q⟩ := z; exact ⟨σ1, H1, J1.ofTry okX, q⟩
    | cont => obtain ⟨σ1, H1, J1, q⟩ := z; exact ⟨σ1, H1, J1.ofTry okX, q⟩
    | ret u => obtain ⟨v, σ1, H1, J1, r, q⟩ := z; exact ⟨v, σ1, H1, J1.ofTry okX, r, q⟩
end
end GL

set_option Elab.async false
set_option linter.all false
set_option maxRecDepth 100000
set_option maxHeartbeats 2000000
namespace GL
open PySem PySem.Spec PyProof.Rows L2
/-! data of any kind, dicts (keys ints and texts) among it, and repr of it -/
def kD : Key → PyData
  | .inl i => .int i
  | .inr x => .str x
mutual
inductive Dq (K : PySem.W.Frag) (H : Hp) : V → PyData → Prop
  | non : Dq K H .non .none
  | bl (b : Bool) : Dq K H (.bl b) (.bool b)
  | int (i : Int) : Dq K H (.int i) (.int i)
  | str (x : Str) : Dq K H (.str x) (.str x)
  | lst {a : Addr} {xs : List V} {ds : List PyData} : SqL K H a xs → DqAll K H xs ds → Dq K H (.ref a) (.list ds)
  | tup {a : Addr} {xs : List V} {ds : List PyData} : SqT K H a xs → DqAll K H xs ds → Dq K H (.ref a) (.tuple ds)
  | dct {a : Addr} {kvs : List (Key × V)} {ds : List (PyData × PyData)} : Rd H a (.dK kvs) → DqKv K H kvs ds → Dq K H (.ref a) (.dict ds)
inductive DqAll (K : PySem.W.Frag) (H : Hp) : List V → List PyData → Prop
  | nil : DqAll K H [] []
  | cons {v : V} {vs : List V} {d : PyData} {ds : List PyData} : Dq K H v d → DqAll K H vs ds → DqAll K H (v :: vs) (d :: ds)
inductive DqKv (K : PySem.W.Frag) (H : Hp) : List (Key × V) → List (PyData × PyData) → Prop
  | nil : DqKv K H [] []
  | cons {k : Key} {v : V} {vs : List (Key × V)} {d : PyData} {ds : List (PyData × PyData)} : Dq K H v d → DqKv K H vs ds → DqKv K H ((k, v) :: vs) ((kD k, d) :: ds)
end
section
variable {X : Cx} {pins : List (Addr × Obj)} {σ : L2.St} {H : Hp} {s : Shared}
theorem lst_ne (hs : SysAt X.base) (I : Inv X pins σ H s) {a : Addr} {xs : List V} (h : SqL X.K H a xs) : a ≠ sysModules := by
  rintro rfl
  obtain ⟨its, rv, ⟨o, n, ho, hc, _, hd⟩, _⟩ := I.list h
  obtain ⟨m, o', es, ep, e, d, _⟩ := hs
  have z := (I.bs _ _ e).1
  rw [ho] at z
  cases z
  rw [hd] at d
  cases d
theorem same_r {H H' : Hp} (e : Same H H') {a : Addr} {u : HO} (h : Rd H a u) : Rd H' a u := h.elim (fun h => .inl (e _ _ h)) fun ⟨o, h⟩ => .inr ⟨o, e _ _ h⟩
theorem same_t {K : PySem.W.Frag} {H H' : Hp} (e : Same H H') {a : Addr} {xs : List V} (h : SqT K H a xs) : SqT K H' a xs := h.elim (fun h => .inl (same_r e h)) .inr
mutual
theorem Dq.reads (hs : SysAt X.base) (I : Inv X pins σ H s) : ∀ (d : PyData) (v : V) (u : Value), Dq X.K H v d → RelV v u → ∃ as, Reads s.heap u d as ∧ sysModules ∉ as
  | .none, _, _, h, r => by cases h; cases r; exact ⟨_, Reads.none, List.not_mem_nil⟩
  | .bool b, _, _, h, r => by cases h; cases r; exact ⟨_, Reads.bool b, List.not_mem_nil⟩
  | .int i, _, _, h, r => by cases h; obtain ⟨t, rfl⟩ := r; exact ⟨_, Reads.int i t, List.not_mem_nil⟩
  | .str x, _, _, h, r => by cases h; obtain ⟨t, rfl⟩ := r; exact ⟨_, Reads.str x t, List.not_mem_nil⟩
  | .list ds, _, _, h, r => by
    cases h with
    | lst hx ha =>
      cases r
      have ne := lst_ne hs I hx
      obtain ⟨its, rv, ⟨o, n, ho, hc, _, hd⟩, _⟩ := I.list hx
      obtain ⟨as, hr, hn⟩ := Dq.readsAll hs I ds _ its ha rv
      exact ⟨_, Reads.list ho hc hd hr, fun z => (List.mem_cons.mp z).elim (fun q => ne q.symm) hn⟩
  | .tuple ds, _, _, h, r => by
    cases h with
    | tup hx ha =>
      cases r
      obtain ⟨its, rv, ⟨o, ho, hc, n, hd⟩, _⟩ := I.tuple hx
      obtain ⟨as, hr, hn⟩ := Dq.readsAll hs I ds _ its ha rv
      exact ⟨_, Reads.tuple ho hc hd hr, hn⟩
  | .dict ds, _, _, h, r => by
    cases h with
    | @dct a kvs _ hx ha =>
      cases r
      obtain ⟨_, ne, vs, kv, o, es, ep, ho, hc, hd, _, hp, _⟩ := dk_rd I.hok hx
      obtain ⟨as, bs, h1, h2, n1, n2⟩ := Dq.readsKv hs I ds kvs es.toList vs ha kv hp
      refine ⟨_, Reads.dict ho hc.1 hd h1 h2, fun z => ?_⟩
      rcases List.mem_append.mp z with z | z
      · rcases List.mem_cons.mp z with z | z
        · exact absurd z.symm (beq_eq_false_iff_ne.mp ne)
        · exact n1 z
      · exact n2 z
theorem Dq.readsAll (hs : SysAt X.base) (I : Inv X pins σ H s) : ∀ (ds : List PyData) (vs : List V) (us : List Value), DqAll X.K H vs ds → Vals vs us → ∃ as, ReadsAll s.heap us ds as ∧ sysModules ∉ as
  | [], _, _, h, r => by cases h; cases r; exact ⟨_, ReadsAll.nil, List.not_mem_nil⟩
  | d :: ds, _, _, h, r => by
    cases h with
    | cons h1 h2 =>
      cases r with
      | cons r1 r2 =>
        obtain ⟨as, q1, n1⟩ := Dq.reads hs I d _ _ h1 r1
        obtain ⟨bs, q2, n2⟩ := Dq.readsAll hs I ds _ _ h2 r2
        exact ⟨_, ReadsAll.cons q1 q2, fun z => (List.mem_append.mp z).elim n1 n2⟩
theorem Dq.readsKv (hs : SysAt X.base) (I : Inv X pins σ H s) : ∀ (ds : List (PyData × PyData)) (kvs : List (Key × V)) (es : List DictEntry) (vs : List (Key × Value)), DqKv X.K H kvs ds → KV kvs vs → Pairs (mixKind X.prog X.w) es vs →
    ∃ as bs, ReadsAll s.heap (es.map (·.key)) (ds.map (·.1)) as ∧ ReadsAll s.heap (es.map (·.val)) (ds.map (·.2)) bs ∧ sysModules ∉ as ∧ sysModules ∉ bs
  | [], _, es, _, h, r, p => by
    cases h
    cases r
    cases p
    exact ⟨_, _, ReadsAll.nil, ReadsAll.nil, List.not_mem_nil, List.not_mem_nil⟩
  | d :: ds, _, es, _, h, r, p => by
    cases h with
    | @cons k v vs dd _ h1 h2 =>
      cases r with
      | cons r1 r2 =>
        cases p with
        | cons p1 p2 p3 =>
          obtain ⟨as, q1, n1⟩ := Dq.reads hs I dd _ _ h1 r1.2
          obtain ⟨bs1, bs2, q2, q3, n2, n3⟩ := Dq.readsKv hs I ds _ _ _ h2 r2 p3
          have kk : ∃ cs, Reads s.heap ‹DictEntry›.key (kD k) cs ∧ sysModules ∉ cs := by
            rw [← r1.1] at p1
            rcases keyIs_shape p1 with ⟨i, t, e1, e2⟩ | ⟨x, t, e1, e2⟩
            · cases (show k = _ from e1); rw [e2]; exact ⟨_, Reads.int i t, List.not_mem_nil⟩
            · cases (show k = _ from e1); rw [e2]; exact ⟨_, Reads.str x t, List.not_mem_nil⟩
          obtain ⟨cs, q4, n4⟩ := kk
          refine ⟨_, _, ReadsAll.cons q4 q2, ReadsAll.cons (by show Reads s.heap (DictEntry.val _) dd as; rw [p2]; exact q1) q3, fun z => (List.mem_append.mp z).elim n4 n2, fun z => (List.mem_append.mp z).elim n1 n3⟩
end
theorem Dq.ref_reads (hs : SysAt X.base) (I : Inv X pins σ H s) {d : PyData} {v : V} (h : Dq X.K H v d) {u : Value} (r : RelV v u) : ∃ as, Reads s.heap u d as ∧ sysModules ∉ as := Dq.reads hs I d v u h r
end
/-- repr(x) -/
def rRepr (K : PySem.W.Frag) : List V → Hp → VK → Prop := fun xs H Q => ∃ (x : V) (d : PyData), xs = [x] ∧ Dq K H x d ∧ d.showable = true ∧ d.shown.length ≤ sizeLine ∧ d.depth ≤ 60 ∧ Q (.str d.shown) H
theorem call_repr {X : Cx} (hs : SysAt X.base) (hq : Quiet X.A) (hu : X.A.units + 64 < cLine) : CallR X (.builtin "repr") (rRepr X.K) := by
  intro pins s σ H xs us Q I r h
  obtain ⟨x, d, rfl, hd, sh, sz, dp, q⟩ := h
  cases r with
  | cons r1 r2 =>
    cases r2
    rename_i u
    obtain ⟨as, rd, n⟩ := Dq.reads hs I d x u hd r1
    have fin : ∀ (tk : Nat) (t : Tok), EP X pins σ Q (.str d.shown t) { s with toks := tk } := fun tk t => ⟨.str d.shown, H, I.tok tk, ⟨t, rfl⟩, q⟩
    cases rd with
    | none => exact PySem.P.repr_of_none (fin _ _)
    | bool b => exact PySem.P.repr_of_bool (by simpa [PyData.shown] using fin _ _)
    | int i t => exact PySem.P.repr_of_int (by simpa [PyData.showable] using sh) (by simpa [PyData.shown] using fin _ _)
    | str y t => exact PySem.P.repr_of_str (by simpa [PyData.shown] using fin _ _) (by simpa [PyData.shown] using sz)
    | list h1 h2 h3 h4 => exact repr_of_reads' (.list h1 h2 h3 h4) sh (fun _ => n) hq (by omega) (fun _ _ e => e) (fun h' u tk k => ⟨.str _, H, I.kept k, ⟨u, rfl⟩, q⟩) sz
    | tuple h1 h2 h3 h4 => exact repr_of_reads' (.tuple h1 h2 h3 h4) sh (fun _ => n) hq (by omega) (fun _ _ e => e) (fun h' u tk k => ⟨.str _, H, I.kept k, ⟨u, rfl⟩, q⟩) sz
    | dict h1 h2 h3 h4 h5 => exact repr_of_reads' (.dict h1 h2 h3 h4 h5) sh (fun _ => n) hq (by omega) (fun _ _ e => e) (fun h' u tk k => ⟨.str _, H, I.kept k, ⟨u, rfl⟩, q⟩) sz
/-! what stands stays -/
mutual
theorem Dq.same {K : PySem.W.Frag} {H H' : Hp} (e : Same H H') : ∀ (d : PyData) {v : V}, Dq K H v d → Dq K H' v d
  | .none, _, h => by cases h; exact .non
  | .bool b, _, h => by cases h; exact .bl b
  | .int i, _, h => by cases h; exact .int i
  | .str x, _, h => by cases h; exact .str x
  | .list ds, _, h => by cases h with | lst h1 h2 => exact .lst (e.seq h1) (Dq.sameAll e ds h2)
  | .tuple ds, _, h => by cases h with | tup h1 h2 => exact .tup (same_t e h1) (Dq.sameAll e ds h2)
  | .dict ds, _, h => by cases h with | dct h1 h2 => exact .dct (same_r e h1) (Dq.sameKv e ds h2)
theorem Dq.sameAll {K : PySem.W.Frag} {H H' : Hp} (e : Same H H') : ∀ (ds : List PyData) {vs : List V}, DqAll K H vs ds → DqAll K H' vs ds
  | [], _, h => by cases h; exact .nil
  | d :: ds, _, h => by cases h with | cons h1 h2 => exact .cons (Dq.same e d h1) (Dq.sameAll e ds h2)
theorem Dq.sameKv {K : PySem.W.Frag} {H H' : Hp} (e : Same H H') : ∀ (ds : List (PyData × PyData)) {vs : List (Key × V)}, DqKv K H vs ds → DqKv K H' vs ds
  | [], _, h => by cases h; exact .nil
  | d :: ds, _, h => by cases h with | cons h1 h2 => exact .cons (Dq.same e _ h1) (Dq.sameKv e ds h2)
end
end GL

set_option Elab.async false
set_option linter.all false
set_option maxRecDepth 100000
set_option maxHeartbeats 2000000
namespace GL
open PySem PySem.Spec PyProof.Rows L2
/-! values as data: what never changes once it is made -/
inductive Da where
  | non | bl (b : Bool) | int (i : Int) | str (x : Str) | ty (n : String) | obj (a : Addr)
  | lst (xs : List Da) | tup (xs : List Da) | dct (ks : List Key) (ds : List Da)
  | ins (C : Addr) (ns : List Str) (ds : List Da) | exc (C : Addr) (ns : List Str) (ds : List Da)
mutual
inductive DR (K : PySem.W.Frag) (H : Hp) : V → Da → Prop
  | non : DR K H .non .non
  | bl (b : Bool) : DR K H (.bl b) (.bl b)
  | int (i : Int) : DR K H (.int i) (.int i)
  | str (x : Str) : DR K H (.str x) (.str x)
  | ty (n : String) : DR K H (.ty n) (.ty n)
  | obj (a : Addr) : DR K H (.ref a) (.obj a)
  | lst {a : Addr} {xs : List V} {ds : List Da} : H a = some (.lst xs) → DRs K H xs ds → DR K H (.ref a) (.lst ds)
  | tup {a : Addr} {xs : List V} {ds : List Da} : H a = some (.tup xs) → DRs K H xs ds → DR K H (.ref a) (.tup ds)
  | dct {a : Addr} {ks : List Key} {vs : List V} {ds : List Da} : H a = some (.dK (ks.zip vs)) → ks.length = vs.length → DRs K H vs ds → DR K H (.ref a) (.dct ks ds)
  | ins {a C dx : Addr} {ns : List Str} {vs : List V} {ds : List Da} : H a = some (.ins C dx (ns.zip vs)) → ns.length = vs.length → DRs K H vs ds → DR K H (.ref a) (.ins C ns ds)
  | exc {a C dx : Addr} {ns : List Str} {vs : List V} {ds : List Da} : H a = some (exo a C (some dx)) → H dx = some (exd dx (ns.zip vs)) → ns.length = vs.length → DRs K H vs ds → DR K H (.ref a) (.exc C ns ds)
  | exc0 {a C : Addr} : H a = some (exo a C none) → DR K H (.ref a) (.exc C [] [])
inductive DRs (K : PySem.W.Frag) (H : Hp) : List V → List Da → Prop
  | nil : DRs K H [] []
  | cons {v : V} {vs : List V} {d : Da} {ds : List Da} : DR K H v d → DRs K H vs ds → DRs K H (v :: vs) (d :: ds)
end
section
variable {K : PySem.W.Frag} {H H' : Hp}
mutual
theorem DR.same (e : Same H H') : ∀ (d : Da) {v : V}, DR K H v d → DR K H' v d
  | .non, _, h => by cases h; exact .non
  | .bl b, _, h => by cases h; exact .bl b
  | .int i, _, h => by cases h; exact .int i
  | .str x, _, h => by cases h; exact .str x
  | .ty n, _, h => by cases h; exact .ty n
  | .obj a, _, h => by cases h; exact .obj a
  | .lst ds, _, h => by cases h with | lst h1 h2 => exact .lst (e _ _ h1) (DRs.same e ds h2)
  | .tup ds, _, h => by cases h with | tup h1 h2 => exact .tup (e _ _ h1) (DRs.same e ds h2)
  | .dct ks ds, _, h => by cases h with | dct h1 h2 h3 => exact .dct (e _ _ h1) h2 (DRs.same e ds h3)
  | .ins C ns ds, _, h => by cases h with | ins h1 h2 h3 => exact .ins (e _ _ h1) h2 (DRs.same e ds h3)
  | .exc C ns ds, _, h => by
    cases h with
    | exc h1 h2 h3 h4 => exact .exc (e _ _ h1) (e _ _ h2) h3 (DRs.same e ds h4)
    | exc0 h1 => exact .exc0 (e _ _ h1)
theorem DRs.same (e : Same H H') : ∀ (ds : List Da) {vs : List V}, DRs K H vs ds → DRs K H' vs ds
  | [], _, h => by cases h; exact .nil
  | d :: ds, _, h => by cases h with | cons h1 h2 => exact .cons (DR.same e d h1) (DRs.same e ds h2)
end
theorem DR.up {v : V} {d : Da} (h : DR K H v d) (e : Same H H') : DR K H' v d := DR.same e d h
theorem DRs.up {vs : List V} {ds : List Da} (h : DRs K H vs ds) (e : Same H H') : DRs K H' vs ds := DRs.same e ds h
theorem DRs.len : ∀ {vs : List V} {ds : List Da}, DRs K H vs ds → vs.length = ds.length
  | _, [], h => by cases h; rfl
  | _, d :: ds, h => by cases h with | cons h1 h2 => simp [DRs.len h2]
theorem DRs.get : ∀ {vs : List V} {ds : List Da} {i : Nat} {v : V}, DRs K H vs ds → vs[i]? = some v → ∃ d, ds[i]? = some d ∧ DR K H v d
  | _, [], i, v, h, e => by cases h; simp at e
  | _, d :: ds, 0, v, h, e => by cases h with | cons h1 h2 => simp at e; subst e; exact ⟨d, rfl, h1⟩
  | _, d :: ds, i + 1, v, h, e => by
    cases h with
    | cons h1 h2 => exact DRs.get (i := i) h2 (by simpa using e)
theorem DRs.getD : ∀ {vs : List V} {ds : List Da} {i : Nat} {d : Da}, DRs K H vs ds → ds[i]? = some d → ∃ v, vs[i]? = some v ∧ DR K H v d
  | _, [], i, v, h, e => by simp at e
  | _, d :: ds, 0, v, h, e => by cases h with | cons h1 h2 => simp at e; subst e; exact ⟨_, rfl, h1⟩
  | _, d :: ds, i + 1, v, h, e => by
    cases h with
    | cons h1 h2 => exact DRs.getD (i := i) h2 (by simpa using e)
theorem DRs.app : ∀ {vs ws : List V} {ds es : List Da}, DRs K H vs ds → DRs K H ws es → DRs K H (vs ++ ws) (ds ++ es)
  | _, _, [], _, h, k => by cases h; exact k
  | _, _, d :: ds, _, h, k => by cases h with | cons h1 h2 => exact .cons h1 (DRs.app h2 k)
end
/-! the same without objects -/
mutual
def Da.toP : Da → Option PyData
  | .non => some .none
  | .bl b => some (.bool b)
  | .int i => some (.int i)
  | .str x => some (.str x)
  | .lst xs => (Da.toPs xs).map .list
  | .tup xs => (Da.toPs xs).map .tuple
  | .dct ks ds => (Da.toPs ds).map fun ps => .dict ((ks.map kD).zip ps)
  | .ty _ | .obj _ | .ins _ _ _ | .exc _ _ _ => none
def Da.toPs : List Da → Option (List PyData)
  | [] => some []
  | d :: ds => (Da.toP d).bind fun p => (Da.toPs ds).map (p :: ·)
end
section
variable {K : PySem.W.Frag} {H : Hp}
theorem kv_of : ∀ (ks : List Key) {vs : List V} {ps : List PyData}, ks.length = vs.length → DqAll K H vs ps → DqKv K H (ks.zip vs) ((ks.map kD).zip ps)
  | [], _, _, e, h => by cases h <;> simp_all <;> exact .nil
  | k :: ks, vs, ps, e, h => by
    cases h with
    | nil => simp at e
    | cons h1 h2 => exact .cons h1 (kv_of ks (by simpa using e) h2)
mutual
theorem DR.dq : ∀ (d : Da) {v : V} {p : PyData}, DR K H v d → d.toP = some p → Dq K H v p
  | .non, _, _, h, e => by cases h; simp only [Da.toP] at e; cases e; exact .non
  | .bl b, _, _, h, e => by cases h; simp only [Da.toP] at e; cases e; exact .bl b
  | .int i, _, _, h, e => by cases h; simp only [Da.toP] at e; cases e; exact .int i
  | .str x, _, _, h, e => by cases h; simp only [Da.toP] at e; cases e; exact .str x
  | .ty n, _, _, h, e => by simp only [Da.toP] at e; cases e
  | .obj a, _, _, h, e => by simp only [Da.toP] at e; cases e
  | .ins C ns ds, _, _, h, e => by simp only [Da.toP] at e; cases e
  | .exc C ns ds, _, _, h, e => by simp only [Da.toP] at e; cases e
  | .lst ds, _, _, h, e => by
    simp only [Da.toP] at e
    obtain ⟨ps, e1, rfl⟩ := Option.map_eq_some_iff.mp e
    cases h with | lst h1 h2 => exact .lst (SqL.of h1) (DRs.dq ds h2 e1)
  | .tup ds, _, _, h, e => by
    simp only [Da.toP] at e
    obtain ⟨ps, e1, rfl⟩ := Option.map_eq_some_iff.mp e
    cases h with | tup h1 h2 => exact .tup (SqT.of h1) (DRs.dq ds h2 e1)
  | .dct ks ds, _, _, h, e => by
    simp only [Da.toP] at e
    obtain ⟨ps, e1, rfl⟩ := Option.map_eq_some_iff.mp e
    cases h with | dct h1 h2 h3 => exact .dct (.inl h1) (kv_of ks h2 (DRs.dq ds h3 e1))
theorem DRs.dq : ∀ (ds : List Da) {vs : List V} {ps : List PyData}, DRs K H vs ds → Da.toPs ds = some ps → DqAll K H vs ps
  | [], _, _, h, e => by cases h; simp only [Da.toPs] at e; cases e; exact .nil
  | d :: ds, _, _, h, e => by
    simp only [Da.toPs] at e
    obtain ⟨p, e1, e2⟩ := Option.bind_eq_some_iff.mp e
    obtain ⟨ps, e3, rfl⟩ := Option.map_eq_some_iff.mp e2
    cases h with | cons h1 h2 => exact .cons (DR.dq d h1 e1) (DRs.dq ds h2 e3)
end
-- data without dicts
mutual
theorem dp_of : ∀ (p : PyData) {v : V}, Dq K H v p → p.hasDict = false → Dp K H v p
  | .none, _, h, _ => by cases h; exact .non
  | .bool b, _, h, _ => by cases h; exact .bl b
  | .int i, _, h, _ => by cases h; exact .int i
  | .str x, _, h, _ => by cases h; exact .str x
  | .list ds, _, h, e => by cases h with | lst h1 h2 => exact .lst h1 (dps_of ds h2 (by simpa [PyData.hasDict] using e))
  | .tuple ds, _, h, e => by cases h with | tup h1 h2 => exact .tup h1 (dps_of ds h2 (by simpa [PyData.hasDict] using e))
  | .dict ds, _, h, e => by simp [PyData.hasDict] at e
theorem dps_of : ∀ (ps : List PyData) {vs : List V}, DqAll K H vs ps → PyData.hasDictAll ps = false → DpAll K H vs ps
  | [], _, h, _ => by cases h; exact .nil
  | d :: ds, _, h, e => by
    simp only [PyData.hasDictAll, Bool.or_eq_false_iff] at e
    cases h with | cons h1 h2 => exact .cons (dp_of d h1 e.1) (dps_of ds h2 e.2)
end
end
end GL

set_option Elab.async false
set_option linter.all false
set_option maxRecDepth 100000
set_option maxHeartbeats 2000000
namespace GL
open PySem PySem.Spec PyProof.Rows L2
/-! A heap in two parts: G holds the data that is spoken of, H (all of it) may hold more, which may change behind the data's back.
Nw G H G' H': from (G, H) to (G', H'); all stays, new data may have come, and it leans on nothing that H held beyond G -/
structure Nw (G H G' H' : Hp) : Prop where
  s : Same H H'
  a : Same G G'
  b : Same G' H'
  n : ∀ p o, H p = some o → G p = none → G' p = none
theorem Nw.refl {G H : Hp} (h : Same G H) : Nw G H G H := ⟨Same.refl H, Same.refl G, h, fun _ _ _ z => z⟩
theorem Nw.trans {G H G' H' G2 H2 : Hp} (x : Nw G H G' H') (y : Nw G' H' G2 H2) : Nw G H G2 H2 := ⟨x.s.trans y.s, x.a.trans y.a, y.b, fun p o e z => y.n p o (x.s p o e) (x.n p o e z)⟩
theorem same_upd {H H' : Hp} {p : Addr} {o : HO} (e : Same H H') (h : H p = none) : Same H (upd H' p o) := fun a u z => by
  rw [upd_ne (ne_of_none z h)]
  exact e a u z
theorem Nw.new {G H : Hp} {p : Addr} {o : HO} (h : Same G H) (hp : H p = none) : Nw G H (upd G p o) (upd H p o) := by
  have hg : G p = none := h.free hp
  refine ⟨same_upd (Same.refl H) hp, same_upd (Same.refl G) hg, fun b u e => ?_, fun b u e z => ?_⟩
  · by_cases q : b = p
    · subst q; rw [upd_same] at e ⊢; exact e
    · rw [upd_ne q] at e ⊢; exact h b u e
  · rw [upd_ne (ne_of_none e hp)]; exact z
/-! what an expression gives, as data -/
def Evd (K : PySem.W.Frag) (te : TE) (σ : L2.St) (G : Hp) (d : Da) : Prop := ∀ H, Same G H → ∀ Q : VK, (∀ v G' H', Nw G H G' H' → DR K G' v d → Q v H') → te σ H Q
def Evs (K : PySem.W.Frag) (ta : TA) (σ : L2.St) (G : Hp) (ds : List Da) : Prop := ∀ H, Same G H → ∀ Q : List V → Hp → Prop, (∀ vs G' H', Nw G H G' H' → DRs K G' vs ds → Q vs H') → ta σ H Q
def Evt (tt : TT) (σ : L2.St) (G : Hp) (b : Bool) : Prop := ∀ H, Same G H → ∀ Q : Bool → Hp → Prop, (∀ G' H', Nw G H G' H' → Q b H') → tt σ H Q
section
variable {K : PySem.W.Frag} {σ : L2.St} {G H : Hp} {te ta tb : TE} {tA tB' : TA} {t u : TT} {d d1 d2 : Da} {ds es : List Da} {b : Bool}
theorem ed_var {i : Nat} {v : V} (h : σ[i]? = some (some v)) (r : DR K G v d) : Evd K (tVar i) σ G d := fun H e Q q => ⟨v, h, q v G H (Nw.refl e) r⟩
theorem ed_c {v : V} (r : ∀ H', DR K H' v d) : Evd K (tC v) σ G d := fun H e Q q => q v G H (Nw.refl e) (r G)
theorem es_nil : Evs K tNil σ G [] := fun H e Q q => q [] G H (Nw.refl e) .nil
theorem es_cons (h : Evd K te σ G d) (hr : ∀ G', Same G G' → Evs K tA σ G' ds) : Evs K (tCons te tA) σ G (d :: ds) := fun H e Q q =>
  h H e _ fun v G1 H1 n1 dv => hr G1 n1.a H1 n1.b _ fun vs G2 H2 n2 dvs => q (v :: vs) G2 H2 (n1.trans n2) (.cons (dv.up n2.a) dvs)
theorem sizeK {n : Nat} (h : n ≤ 1000) : n ≤ sizeLine := Nat.le_trans h (by decide)
theorem ed_tup (h : Evs K tA σ G ds) (hl : ds.length ≤ 1000 := by decide) : Evd K (tTup tA) σ G (.tup ds) := fun H e Q q => h H e _ fun vs G1 H1 n1 dvs =>
  ⟨by rw [dvs.len]; exact sizeK hl, fun p hp => let n2 := Nw.new (o := .tup vs) n1.b hp; q (.ref p) _ _ (n1.trans n2) (.tup upd_same (dvs.up n2.a))⟩
theorem ed_lst (h : Evs K tA σ G ds) (hl : ds.length ≤ 1000 := by decide) : Evd K (tLst tA) σ G (.lst ds) := fun H e Q q => h H e _ fun vs G1 H1 n1 dvs =>
  ⟨by rw [dvs.len]; exact sizeK hl, fun p hp => let n2 := Nw.new (o := .lst vs) n1.b hp; q (.ref p) _ _ (n1.trans n2) (.lst upd_same (dvs.up n2.a))⟩
/-- two operands, one behind the other -/
theorem ed_two {r : R2} (ha : Evd K ta σ G d1) (hb : ∀ G', Same G G' → Evd K tb σ G' d2)
    (hr : ∀ x y G' H', Same G G' → Same G' H' → DR K G' x d1 → DR K G' y d2 → ∀ Q : VK, (∀ v G2 H2, Nw G' H' G2 H2 → DR K G2 v d → Q v H2) → r x y H' Q) : Evd K (tOp r ta tb) σ G d := fun H e Q q =>
  ha H e _ fun v G1 H1 n1 dv => hb G1 n1.a H1 n1.b _ fun w G2 H2 n2 dw => hr v w G2 H2 (n1.a.trans n2.a) n2.b (dv.up n2.a) dw Q fun z G3 H3 n3 dz => q z G3 H3 ((n1.trans n2).trans n3) dz
/-- list + list -/
theorem ed_cat (ha : Evd K ta σ G (.lst ds)) (hb : ∀ G', Same G G' → Evd K tb σ G' (.lst es)) (hl : ds.length + es.length ≤ 1000 := by decide) : Evd K (tOp rCat ta tb) σ G (.lst (ds ++ es)) :=
  ed_two ha hb fun x y G' H' _ e dx dy Q q => by
    cases dx with
    | @lst _ xs _ h1 h2 =>
      cases dy with
      | @lst _ zs _ k1 k2 =>
        refine ⟨_, _, _, _, rfl, rfl, e _ _ h1, e _ _ k1, by rw [h2.len, k2.len]; exact sizeK hl, fun p hp => ?_⟩
        have n := Nw.new (o := .lst (xs ++ zs)) e hp
        exact q (.ref p) _ _ n (.lst upd_same (DRs.app (h2.up n.a) (k2.up n.a)))
/-- a def whose value is a function of its arguments' data -/
def Pd (K : PySem.W.Frag) (n : Nat) (g : List Da → Option Da) : Sp := fun vs H Q _ => ∃ G ds d, Same G H ∧ ds.length = n ∧ DRs K G vs ds ∧ g ds = some d ∧ ∀ v G' H', Nw G H G' H' → DR K G' v d → Q v H'
theorem Pd.len {n : Nat} {g : List Da → Option Da} (vs : List V) (H : Hp) (Q : VK) (E : XK) (h : Pd K n g vs H Q E) : vs.length = n := by
  obtain ⟨_, ds, d, _, hl, r, _⟩ := h
  rw [r.len, hl]
theorem ed_call {n : Nat} {g : List Da → Option Da} {E : XK} (h : Evs K tA σ G ds) (hl : ds.length = n) (hg : g ds = some d) : Evd K (tCall (Pd K n g) [] E tA) σ G d := fun H e Q q =>
  h H e _ fun vs G1 H1 n1 dvs => ⟨G1, ds, d, n1.b, hl, by rw [List.append_nil]; exact dvs, hg, fun v G2 H2 n2 dv => q v G2 H2 (n1.trans n2) dv⟩
/-- e.f of an error -/
theorem ed_ofl {C : Addr} {ns : List Str} {f : Str} (h : Evd K te σ G (.exc C ns ds)) (T : OGet K C) (no : PySem.W.findIn K (.ref C) f = some none) (hl : ∀ vs : List V, ns.length = vs.length → ∃ i : Nat, ds[i]? = some d ∧ List.lookup f (ns.zip vs) = vs[i]?) :
    Evd K (tOfl K f te) σ G d := fun H e Q q => h H e _ fun v G1 H1 n1 dv => by
  cases dv with
  | @exc a _ dx _ vs _ h1 h2 h3 h4 =>
    obtain ⟨i, e1, e3⟩ := hl vs h3
    obtain ⟨w, e4, e5⟩ := h4.getD e1
    exact ⟨a, C, dx, _, w, rfl, T, no, n1.b _ _ h1, n1.b _ _ h2, e3.trans e4, q w G1 H1 n1 e5⟩
  | exc0 h1 =>
    obtain ⟨i, e1, _⟩ := hl [] rfl
    simp at e1
/-- isinstance(e, c) of an error -/
theorem ed_isO {C : Addr} {ns : List Str} {c : Da} {cv : Value} (h : Evd K te σ G (.exc C ns ds)) (hc : ∀ G', Same G G' → Evd K ta σ G' c) (T : OGet K C) (kc : ∀ H' v, DR K H' v c → ClsV v cv) (hk : PySem.W.kitOne K (.ref C) cv = some b) :
    Evd K (tCB (rIsO K) (tCons te (tCons ta tNil))) σ G (.bl b) := fun H e Q q => h H e _ fun v G1 H1 n1 dv => hc G1 n1.a H1 n1.b _ fun w G2 H2 n2 dw => by
  have dv := dv.up n2.a
  have go : ∀ a dd, v = .ref a → H2 a = some (exo a C dd) → (∀ dx, dd = some dx → ∃ fs, H2 dx = some (exd dx fs)) → rIsO K [v, w] H2 Q := fun a dd ev h1 h2 => by
    subst ev
    exact ⟨a, C, dd, w, cv, b, rfl, kc G2 w dw, T, h1, h2, hk, q _ G2 H2 (n1.trans n2) (.bl b)⟩
  cases dv with
  | exc h1 h2 h3 h4 => exact go _ _ rfl (n2.b _ _ h1) fun dx z => by cases z; exact ⟨_, n2.b _ _ h2⟩
  | exc0 h1 => exact go _ _ rfl (n2.b _ _ h1) fun dx z => by cases z
theorem cls_obj {D : Addr} : ∀ (H' : Hp) v, DR K H' v (.obj D) → ClsV v (.ref D) := fun _ _ h => by cases h; exact .own D
theorem cls_ty {n : String} : ∀ (H' : Hp) v, DR K H' v (.ty n) → ClsV v (.type n) := fun _ _ h => by cases h; exact .ty n
/-- repr(e) -/
theorem ed_repr {p : PyData} (h : Evd K te σ G d) (hp : d.toP = some p) (hs : p.showable = true) (hl : p.shown.length ≤ sizeLine) (hd : p.depth ≤ 60) : Evd K (tCB (rRepr K) (tCons te tNil)) σ G (.str p.shown) := fun H e Q q =>
  h H e _ fun v G1 H1 n1 dv => ⟨v, p, rfl, DR.dq d (dv.up n1.b) hp, hs, hl, hd, q _ G1 H1 n1 (.str _)⟩
/-- a if t else b -/
theorem ed_if (h : Evt t σ G b) (h1 : b = true → ∀ G', Same G G' → Evd K ta σ G' d) (h2 : b = false → ∀ G', Same G G' → Evd K tb σ G' d) : Evd K (tIf t ta tb) σ G d := fun H e Q q => h H e _ fun G1 H1 n1 => by
  cases b with
  | true => exact h1 rfl G1 n1.a H1 n1.b Q fun v G2 H2 n2 dv => q v G2 H2 (n1.trans n2) dv
  | false => exact h2 rfl G1 n1.a H1 n1.b Q fun v G2 H2 n2 dv => q v G2 H2 (n1.trans n2) dv
/-- == and != of data without dicts -/
theorem ed_eq {p q : PyData} (ha : Evd K ta σ G d1) (hb : ∀ G', Same G G' → Evd K tb σ G' d2) (h1 : d1.toP = some p) (h2 : d2.toP = some q) (n1 : p.hasDict = false) (n2 : q.hasDict = false) (s1 : SeqAt.shaped p = true) (s2 : SeqAt.shaped q = true) (hz : PyData.eqv p q = b) :
    Evd K (tOp (rEqD K) ta tb) σ G (.bl b) := ed_two ha hb fun x y G' H' _ e dx dy Q k =>
  ⟨p, q, dp_of p (DR.dq d1 (dx.up e) h1) n1, dp_of q (DR.dq d2 (dy.up e) h2) n2, s1, s2, by rw [hz]; exact k _ G' H' (Nw.refl e) (.bl b)⟩
theorem ed_ne {p q : PyData} (ha : Evd K ta σ G d1) (hb : ∀ G', Same G G' → Evd K tb σ G' d2) (h1 : d1.toP = some p) (h2 : d2.toP = some q) (n1 : p.hasDict = false) (n2 : q.hasDict = false) (s1 : SeqAt.shaped p = true) (s2 : SeqAt.shaped q = true) (hz : (!PyData.eqv p q) = b) :
    Evd K (tOp (rNeD K) ta tb) σ G (.bl b) := ed_two ha hb fun x y G' H' _ e dx dy Q k =>
  ⟨p, q, dp_of p (DR.dq d1 (dx.up e) h1) n1, dp_of q (DR.dq d2 (dy.up e) h2) n2, s1, s2, by rw [hz]; exact k _ G' H' (Nw.refl e) (.bl b)⟩
/-- texts -/
theorem ed_eqs {x y : Str} (ha : Evd K ta σ G (.str x)) (hb : ∀ G', Same G G' → Evd K tb σ G' (.str y)) (hz : decide (x = y) = b) : Evd K (tOp rEq ta tb) σ G (.bl b) := ed_two ha hb fun v w G' H' _ e dv dw Q k => by
  cases dv; cases dw
  have z : decide (V.str x = V.str y) = b := by rw [← hz]; simp
  exact ⟨rfl, by rw [z]; exact k _ G' H' (Nw.refl e) (.bl b)⟩
theorem ed_nes {x y : Str} (ha : Evd K ta σ G (.str x)) (hb : ∀ G', Same G G' → Evd K tb σ G' (.str y)) (hz : (!decide (x = y)) = b) : Evd K (tOp rNe ta tb) σ G (.bl b) := ed_two ha hb fun v w G' H' _ e dv dw Q k => by
  cases dv; cases dw
  have z : (!decide (V.str x = V.str y)) = b := by rw [← hz]; simp
  exact ⟨rfl, by rw [z]; exact k _ G' H' (Nw.refl e) (.bl b)⟩
/-! tests -/
theorem et_of (h : Evd K te σ G (.bl b)) : Evt (tTest te) σ G b := fun H e Q q => h H e _ fun v G1 H1 n1 dv => by
  cases dv
  exact ⟨b, rfl, q G1 H1 n1⟩
theorem et_B (h : Evd K te σ G (.bl b)) : Evt (L2.tB te) σ G b := fun H e Q q => h H e _ fun v G1 H1 n1 dv => by
  cases dv
  exact ⟨b, rfl, q G1 H1 n1⟩
theorem et_not (h : Evt t σ G b) : Evt (tNot t) σ G (!b) := fun H e Q q => h H e _ fun G1 H1 n1 => q G1 H1 n1
theorem et_or {c : Bool} (h : Evt t σ G b) (h2 : b = false → ∀ G', Same G G' → Evt u σ G' c) : Evt (tOr t u) σ G (b || c) := fun H e Q q => h H e _ fun G1 H1 n1 => by
  cases b with
  | true => exact q G1 H1 n1
  | false => exact h2 rfl G1 n1.a H1 n1.b Q fun G2 H2 n2 => q G2 H2 (n1.trans n2)
theorem et_and {c : Bool} (h : Evt t σ G b) (h2 : b = true → ∀ G', Same G G' → Evt u σ G' c) : Evt (tAnd t u) σ G (b && c) := fun H e Q q => h H e _ fun G1 H1 n1 => by
  cases b with
  | false => exact q G1 H1 n1
  | true => exact h2 rfl G1 n1.a H1 n1.b Q fun G2 H2 n2 => q G2 H2 (n1.trans n2)
theorem et_is {c : Bool} (h : Evt t σ G b) (e : b = c) : Evt t σ G c := e ▸ h
theorem ed_is (h : Evd K te σ G d) (e : d = d1) : Evd K te σ G d1 := e ▸ h
/-! truth values by and -/
theorem ed_andV {c : Bool} (h : Evd K ta σ G (.bl b)) (h2 : b = true → ∀ G', Same G G' → Evd K tb σ G' (.bl c)) : Evd K (tAndV ta tb) σ G (.bl (b && c)) := fun H e Q q => h H e _ fun v G1 H1 n1 dv => by
  cases dv
  refine ⟨b, rfl, ?_⟩
  cases b with
  | false => exact q _ G1 H1 n1 (.bl false)
  | true => exact h2 rfl G1 n1.a H1 n1.b Q fun w G2 H2 n2 dw => q w G2 H2 (n1.trans n2) dw
/-! statements -/
variable {D : Ends} {ts tz : TS}
theorem sd_asg {i : Nat} (s : Same G H) (h : Evd K te σ G d) (k : ∀ v G1 H1, Nw G H G1 H1 → DR K G1 v d → D.nx (σ.set i (some v)) H1) : tAsg te (gName i) D σ H := h H s _ fun v G1 H1 e dv => k v G1 H1 e dv
theorem qd_asg {i : Nat} (s : Same G H) (h : Evd K te σ G d) (k : ∀ v G1 H1, Nw G H G1 H1 → DR K G1 v d → tz D (σ.set i (some v)) H1) : tSeq (tAsg te (gName i)) tz D σ H := h H s _ fun v G1 H1 e dv => k v G1 H1 e dv
theorem sd_ret (s : Same G H) (h : Evd K te σ G d) (k : ∀ v G1 H1, Nw G H G1 H1 → DR K G1 v d → D.rt v H1) : tRet te D σ H := h H s _ k
theorem qd_if {tu tw : TS} (s : Same G H) (h : Evt t σ G b) (h1 : b = true → ∀ G1 H1, Nw G H G1 H1 → tu { D with nx := tz D } σ H1) (h2 : b = false → ∀ G1 H1, Nw G H G1 H1 → tw { D with nx := tz D } σ H1) : tSeq (tIfS t tu tw) tz D σ H := h H s _ fun G1 H1 e => by
  cases b with
  | true => exact h1 rfl G1 H1 e
  | false => exact h2 rfl G1 H1 e
theorem sd_if {tu tw : TS} (s : Same G H) (h : Evt t σ G b) (h1 : b = true → ∀ G1 H1, Nw G H G1 H1 → tu D σ H1) (h2 : b = false → ∀ G1 H1, Nw G H G1 H1 → tw D σ H1) : tIfS t tu tw D σ H := h H s _ fun G1 H1 e => by
  cases b with
  | true => exact h1 rfl G1 H1 e
  | false => exact h2 rfl G1 H1 e
end
/-! a new error -/
/-- the promise of an own error's __init__: it keeps its arguments' data in the fields ns (the newest first), by g -/
def Pi (K : PySem.W.Frag) (C : Addr) (n : Nat) (ns : List Str) (g : List Da → Option (List Da)) : Sp := fun vs H Q _ => ∃ G a ws ds es, vs = .ref a :: ws ∧ ds.length = n ∧ Same G H ∧ G a = none ∧ H a = some (exo a C none) ∧ DRs K G ws ds ∧ g ds = some es ∧
  ∀ G' H', (∀ b o, b ≠ a → H b = some o → H' b = some o) → Same G G' → Same G' H' → (∀ b o, b ≠ a → H b = some o → G b = none → G' b = none) → DR K G' (.ref a) (.exc C ns es) → Q .non H'
section
variable {K : PySem.W.Frag} {σ : L2.St} {G : Hp} {tA tk : TA} {C : Addr} {n : Nat} {ns : List Str} {g : List Da → Option (List Da)} {ds zs es : List Da} {E : XK}
theorem Pi.len (vs : List V) (H : Hp) (Q : VK) (E : XK) (h : Pi K C n ns g vs H Q E) : vs.length = n + 1 := by
  obtain ⟨_, a, ws, ds, es, rfl, hl, _, _, _, r, _⟩ := h
  rw [List.length_cons, r.len, hl]
theorem ed_oex {m k : Nat} {gV : List V → List V → List V} (h : Evs K tA σ G ds) (hk : ∀ G', Same G G' → Evs K tk σ G' zs) (hm : ds.length = m) (hz : zs.length = k) (order : List Da) (ho : order.length = n)
    (hg : ∀ (a : Addr) (H' : Hp) (vs ws : List V), DRs K H' vs ds → DRs K H' ws zs → ∃ us, gV (.ref a :: vs) ws = .ref a :: us ∧ DRs K H' us order) (hq : g order = some es) :
    Evd K (tOex C m k (Pi K C n ns g) gV E tA tk) σ G (.exc C ns es) := fun H e Q q => h H e _ fun vs G1 H1 n1 dvs => hk G1 n1.a H1 n1.b _ fun ws G2 H2 n2 dws =>
  ⟨by rw [dvs.len]; exact hm, by rw [dws.len]; exact hz, fun a ha => by
    obtain ⟨us, e4, r⟩ := hg a G2 vs ws (dvs.up n2.a) dws
    rw [e4]
    have hga : G2 a = none := n2.b.free ha
    refine ⟨G2, a, us, order, es, rfl, ho, same_upd n2.b hga, hga, upd_same, r, hq, fun G' H' k1 k2 k3 k4 dd => ⟨rfl, q _ G' H' ((n1.trans n2).trans ⟨fun b o z => k1 b o (ne_of_none z ha) ?_, k2, k3, fun b o z w => k4 b o (ne_of_none z ha) ?_ w⟩) dd⟩⟩
    all_goals (rw [upd_ne (ne_of_none z ha)]; exact z)⟩
theorem ed_exc0 : Evd K (fun _ H Q => ∀ a, H a = none → Q (.ref a) (upd H a (exo a C none))) σ G (.exc C [] []) := fun H e Q q a ha => q _ _ _ (Nw.new e ha) (.exc0 upd_same)
end
end GL

set_option Elab.async false
set_option linter.all false
set_option maxRecDepth 100000
set_option maxHeartbeats 2000000
namespace GL
open PySem PySem.Spec PyProof.Rows L2
section
variable {K : PySem.W.Frag} {σ : L2.St} {G : Hp} {te ta tl : TE} {tt : TT} {d : Da} {ds : List Da} {g : TG} {vs : List Nat}
/-- a comprehension over a list of data -/
theorem ed_lc (p : Da → Bool) (f : Da → Da) (h : Evd K tl σ G (.lst ds)) (hz : ds.length ≤ 1000)
    (hs : ∀ x d G' H', Same G G' → Same G' H' → d ∈ ds → DR K G' x d → ∃ σ2, (∀ k : L2.St → Hp → Prop, k σ2 H' → g x (wipe σ vs) H' k) ∧ wipe σ2 vs = wipe σ vs ∧ Evt tt σ2 G' (p d) ∧ (p d = true → ∀ G2, Same G' G2 → Evd K te σ2 G2 (f d))) :
    Evd K (tLc (iList K tl) g tt te vs) σ G (.lst ((ds.filter p).map f)) := fun H e Q q => h H e _ fun v G1 H1 n1 dv => by
  cases dv with
  | @lst a xs _ h1 h2 =>
    refine ⟨a, rfl, ⟨xs, SqL.of (n1.b _ _ h1)⟩, fun D hD => ?_⟩
    have gD : G1 D = none := n1.b.free hD
    have lx := h2.len
    refine lc_list (K := K) (a := a) (xs := xs) (fun i H' => ∃ G' acc, Same H1 H' ∧ Same G1 G' ∧ Same G' H' ∧ G' D = none ∧ (∀ b o, H1 b = some o → G1 b = none → G' b = none) ∧ H' D = some (.lst acc) ∧ DRs K G' acc (((ds.take i).filter p).map f))
      ⟨G1, [], same_upd (Same.refl _) hD, Same.refl _, same_upd n1.b gD, gD, fun _ _ _ z => z, upd_same, by simpa using DRs.nil⟩ (fun i H' _ ⟨G', acc, s1, s2, s3, _⟩ => SqL.of (s3 _ _ (s2 _ _ h1))) ?_ ?_
    · rintro i x H' hi ⟨G', acc, s1, s2, s3, gd, nn, hd, dr⟩
      obtain ⟨d, hdi, dx⟩ := h2.get hi
      have hmem : d ∈ ds := List.mem_of_getElem? hdi
      have lacc : acc.length ≤ 1000 := by
        rw [dr.len, List.length_map]
        exact Nat.le_trans (Nat.le_trans (List.length_filter_le _ _) (by rw [List.length_take]; omega)) hz
      have step : (ds.take (i + 1)).filter p = (ds.take i).filter p ++ (if p d = true then [d] else []) := by
        rw [List.take_succ, hdi, List.filter_append]
        by_cases hp : p d = true
        · simp [hp]
        · simp [hp]
      obtain ⟨σ2, k1, k2, k3, k4⟩ := hs x d G' H' (n1.a.trans s2) s3 hmem (dx.up s2)
      refine k1 _ ⟨k2, k3 H' s3 _ fun G2 H2 n2 => ?_⟩
      have gd2 : G2 D = none := n2.n _ _ hd gd
      cases hp : p d with
      | true =>
        show te σ2 H2 _
        refine k4 hp G2 n2.a H2 n2.b _ fun y G3 H3 n3 dy => ⟨acc, n3.s _ _ (n2.s _ _ hd), small1000 lacc, G3, acc ++ [y], same_upd ((s1.trans n2.s).trans n3.s) hD, (s2.trans n2.a).trans n3.a, same_upd n3.b (n3.n _ _ (n2.s _ _ hd) gd2), n3.n _ _ (n2.s _ _ hd) gd2, fun b o z w => ?_, upd_same, ?_⟩
        · exact n3.n _ _ (n2.s _ _ (s1 _ _ z)) (n2.n _ _ (s1 _ _ z) (nn _ _ z w))
        · rw [step, if_pos hp, List.map_append]
          exact DRs.app ((dr.up n2.a).up n3.a) (.cons dy .nil)
      | false =>
        show ∃ G' acc, _
        refine ⟨G2, acc, s1.trans n2.s, s2.trans n2.a, n2.b, gd2, fun b o z w => n2.n _ _ (s1 _ _ z) (nn _ _ z w), n2.s _ _ hd, ?_⟩
        rw [step, if_neg (by rw [hp]; exact Bool.false_ne_true), List.append_nil]
        exact dr.up n2.a
    · rintro H' ⟨G', acc, s1, s2, s3, gd, nn, hd, dr⟩
      rw [lx, List.take_length] at dr
      have up1 : Same G' (upd G' D (.lst acc)) := same_upd (Same.refl _) gd
      refine q (.ref D) (upd G' D (.lst acc)) H' (n1.trans ⟨s1, s2.trans up1, fun b o z => ?_, fun b o z w => ?_⟩) (.lst upd_same (dr.up up1))
      · by_cases hb : b = D
        · subst hb; rw [upd_same] at z; cases z; exact hd
        · rw [upd_ne hb] at z; exact s3 _ _ z
      · rw [upd_ne (ne_of_none z hD)]
        exact nn _ _ z w
/-- the same over a tuple -/
theorem ed_lcT (p : Da → Bool) (f : Da → Da) (h : Evd K tl σ G (.tup ds)) (hz : ds.length ≤ 1000)
    (hs : ∀ x d G' H', Same G G' → Same G' H' → d ∈ ds → DR K G' x d → ∃ σ2, (∀ k : L2.St → Hp → Prop, k σ2 H' → g x (wipe σ vs) H' k) ∧ wipe σ2 vs = wipe σ vs ∧ Evt tt σ2 G' (p d) ∧ (p d = true → ∀ G2, Same G' G2 → Evd K te σ2 G2 (f d))) :
    Evd K (tLc (iTup K tl) g tt te vs) σ G (.lst ((ds.filter p).map f)) := fun H e Q q => h H e _ fun v G1 H1 n1 dv => by
  cases dv with
  | @tup a xs _ h1 h2 =>
    refine ⟨a, rfl, ⟨xs, SqT.of (n1.b _ _ h1)⟩, fun D hD => ?_⟩
    have gD : G1 D = none := n1.b.free hD
    have lx := h2.len
    refine lc_tup (K := K) (a := a) (xs := xs) (fun i H' => ∃ G' acc, Same H1 H' ∧ Same G1 G' ∧ Same G' H' ∧ G' D = none ∧ (∀ b o, H1 b = some o → G1 b = none → G' b = none) ∧ H' D = some (.lst acc) ∧ DRs K G' acc (((ds.take i).filter p).map f))
      ⟨G1, [], same_upd (Same.refl _) hD, Same.refl _, same_upd n1.b gD, gD, fun _ _ _ z => z, upd_same, by simpa using DRs.nil⟩ (fun i H' _ ⟨G', acc, s1, s2, s3, _⟩ => SqT.of (s3 _ _ (s2 _ _ h1))) ?_ ?_
    · rintro i x H' hi ⟨G', acc, s1, s2, s3, gd, nn, hd, dr⟩
      obtain ⟨d, hdi, dx⟩ := h2.get hi
      have hmem : d ∈ ds := List.mem_of_getElem? hdi
      have lacc : acc.length ≤ 1000 := by
        rw [dr.len, List.length_map]
        exact Nat.le_trans (Nat.le_trans (List.length_filter_le _ _) (by rw [List.length_take]; omega)) hz
      have step : (ds.take (i + 1)).filter p = (ds.take i).filter p ++ (if p d = true then [d] else []) := by
        rw [List.take_succ, hdi, List.filter_append]
        by_cases hp : p d = true
        · simp [hp]
        · simp [hp]
      obtain ⟨σ2, k1, k2, k3, k4⟩ := hs x d G' H' (n1.a.trans s2) s3 hmem (dx.up s2)
      refine k1 _ ⟨k2, k3 H' s3 _ fun G2 H2 n2 => ?_⟩
      have gd2 : G2 D = none := n2.n _ _ hd gd
      cases hp : p d with
      | true =>
        show te σ2 H2 _
        refine k4 hp G2 n2.a H2 n2.b _ fun y G3 H3 n3 dy => ⟨acc, n3.s _ _ (n2.s _ _ hd), small1000 lacc, G3, acc ++ [y], same_upd ((s1.trans n2.s).trans n3.s) hD, (s2.trans n2.a).trans n3.a, same_upd n3.b (n3.n _ _ (n2.s _ _ hd) gd2), n3.n _ _ (n2.s _ _ hd) gd2, fun b o z w => ?_, upd_same, ?_⟩
        · exact n3.n _ _ (n2.s _ _ (s1 _ _ z)) (n2.n _ _ (s1 _ _ z) (nn _ _ z w))
        · rw [step, if_pos hp, List.map_append]
          exact DRs.app ((dr.up n2.a).up n3.a) (.cons dy .nil)
      | false =>
        show ∃ G' acc, _
        refine ⟨G2, acc, s1.trans n2.s, s2.trans n2.a, n2.b, gd2, fun b o z w => n2.n _ _ (s1 _ _ z) (nn _ _ z w), n2.s _ _ hd, ?_⟩
        rw [step, if_neg (by rw [hp]; exact Bool.false_ne_true), List.append_nil]
        exact dr.up n2.a
    · rintro H' ⟨G', acc, s1, s2, s3, gd, nn, hd, dr⟩
      rw [lx, List.take_length] at dr
      have up1 : Same G' (upd G' D (.lst acc)) := same_upd (Same.refl _) gd
      refine q (.ref D) (upd G' D (.lst acc)) H' (n1.trans ⟨s1, s2.trans up1, fun b o z => ?_, fun b o z w => ?_⟩) (.lst upd_same (dr.up up1))
      · by_cases hb : b = D
        · subst hb; rw [upd_same] at z; cases z; exact hd
        · rw [upd_ne hb] at z; exact s3 _ _ z
      · rw [upd_ne (ne_of_none z hD)]
        exact nn _ _ z w
/-- what the target a name does -/
theorem go_name {j : Nat} {x : V} {H' : Hp} : ∀ k : L2.St → Hp → Prop, k ((wipe σ vs).set j (some x)) H' → gName j x (wipe σ vs) H' k := fun k h => h
theorem go_tup2 {i j : Nat} {a : Addr} {x y : V} {τ : L2.St} {H' : Hp} (h : H' a = some (.tup [x, y])) : ∀ k : L2.St → Hp → Prop, k ((τ.set i (some x)).set j (some y)) H' → gTup K 2 (gCons (gName i) (gCons (gName j) gNil)) (.ref a) τ H' k :=
  fun k q => ⟨a, [x, y], rfl, SqT.of h, rfl, x, [y], rfl, y, [], rfl, rfl, q⟩
theorem go_tup3 {i j l : Nat} {a : Addr} {x y z : V} {τ : L2.St} {H' : Hp} (h : H' a = some (.tup [x, y, z])) : ∀ k : L2.St → Hp → Prop, k (((τ.set i (some x)).set j (some y)).set l (some z)) H' → gTup K 3 (gCons (gName i) (gCons (gName j) (gCons (gName l) gNil))) (.ref a) τ H' k :=
  fun k q => ⟨a, [x, y, z], rfl, SqT.of h, rfl, x, [y, z], rfl, y, [z], rfl, z, [], rfl, rfl, q⟩
theorem yes_go {H : Hp} {Q : Bool → Hp → Prop} (h : Q true H) : tYes σ H Q := h
/-- no test -/
theorem et_yes : Evt tYes σ G true := fun H e Q q => q G H (Nw.refl e)
/-- an item of a list of data -/
theorem ed_ixL {i : Nat} {ti : TE} (h : Evd K ta σ G (.lst ds)) (hi : ∀ G', Same G G' → Evd K ti σ G' (.int (i : Int))) (hd : ds[i]? = some d) : Evd K (tOp (rIxL K) ta ti) σ G d := ed_two h hi fun x y G' H' _ e dx dy Q q => by
  cases dx with
  | lst h1 h2 =>
    cases dy
    obtain ⟨v, e1, e2⟩ := h2.getD hd
    exact ⟨_, _, _, v, rfl, rfl, SqL.of (e _ _ h1), atI_nat e1, q v G' H' (Nw.refl e) e2⟩
/-- isinstance of data against a built-in class -/
def tyD : Da → Option String
  | .non => some "NoneType" | .bl _ => some "bool" | .int _ => some "int" | .str _ => some "str"
  | .lst _ => some "list" | .tup _ => some "tuple" | .dct _ _ => some "dict"
  | _ => none
theorem ty_of {H : Hp} {v : V} {t : String} (e : DR K H v d) (h : tyD d = some t) : TyX K H v (.type t) := by
  cases e with
  | non => cases h; exact .base .non
  | bl b => cases h; exact .base (.bl b)
  | int i => cases h; exact .base (.int i)
  | str x => cases h; exact .base (.str x)
  | lst h1 h2 => cases h; exact .base (.lst h1)
  | tup h1 h2 => cases h; exact .base (.tup h1)
  | dct h1 h2 h3 => cases h; exact .base (.dK h1)
  | ty | obj | ins | exc | exc0 => cases h
theorem ed_isi {t T : String} {b : Bool} (h : Evd K ta σ G d) (ht : tyD d = some t) (hk : kitB t T = some b) : Evd K (tCB (rIsi K) (tCons ta (tCons (tC (.ty T)) tNil))) σ G (.bl b) := fun H e Q q => h H e _ fun v G1 H1 n1 dv =>
  ⟨v, .ty T, .type t, .type T, b, rfl, .ty T, ty_of (dv.up n1.b) ht, kit_ty hk, q _ G1 H1 n1 (.bl b)⟩
/-- tuple(list) -/
def rTup (K : PySem.W.Frag) : List V → Hp → VK → Prop := fun xs H Q => ∃ p ys, xs = [.ref p] ∧ ((SqL K H p ys ∧ ∀ l, H l = none → Q (.ref l) (upd H l (.tup ys))) ∨ (SqT K H p ys ∧ Q (.ref p) H))
theorem ed_tupL (h : Evd K ta σ G (.lst ds)) : Evd K (tCB (rTup K) (tCons ta tNil)) σ G (.tup ds) := fun H e Q q => h H e _ fun v G1 H1 n1 dv => by
  cases dv with
  | @lst a xs _ h1 h2 => exact ⟨a, xs, rfl, .inl ⟨SqL.of (n1.b _ _ h1), fun l hl => let n2 := Nw.new (o := .tup xs) n1.b hl; q (.ref l) _ _ (n1.trans n2) (.tup upd_same (h2.up n2.a))⟩⟩
/-- data that leans on no object -/
def flatD : Da → Bool
  | .non | .bl _ | .int _ | .str _ => true
  | _ => false
theorem flat_any {H H' : Hp} {v : V} {d : Da} (h : DR K H v d) (f : flatD d = true) : DR K H' v d := by
  cases h with
  | non => exact .non
  | bl b => exact .bl b
  | int i => exact .int i
  | str x => exact .str x
  | _ => cases f
theorem valV_zip {ks : List Key} {vs : List V} {i : Nat} {k : Key} {v : V} (nd : ks.Nodup) (h1 : ks[i]? = some k) (h2 : vs[i]? = some v) : valV (ks.zip vs) k = some v := by
  induction ks generalizing vs i with
  | nil => simp at h1
  | cons k0 ks ih =>
    cases vs with
    | nil => simp at h2
    | cons v0 vs =>
      rw [List.nodup_cons] at nd
      cases i with
      | zero =>
        simp at h1 h2
        subst h1 h2
        simp [valV]
      | succ i =>
        simp at h1 h2
        have ne : k0 ≠ k := fun z => nd.1 (by rw [z]; exact List.mem_of_getElem? h1)
        have := ih nd.2 h1 h2
        simpa [valV, ne] using this
/-- {key: f(value[key]) for key in value}, f a def that gives what it takes back, the values flat -/
theorem ed_dcopy {i j : Nat} {v : V} {ks : List Key} {g : List Da → Option Da} {E : XK} (hv : σ[i]? = some (some v)) (dv : DR K G v (.dct ks ds)) (nd : ks.Nodup) (hfl : ∀ d ∈ ds, flatD d = true ∧ g [d] = some d) (hz : ks.length ≤ 1000)
    (hw : ∀ x, wipe ((wipe σ [j]).set j (some x)) [j] = wipe σ [j]) (hi : ∀ x, ((wipe σ [j]).set j (some x))[i]? = some (some v)) (hj : ∀ x, ((wipe σ [j]).set j (some x))[j]? = some (some x)) :
    Evd K (tLockE (tDc (iKeys (tVar i)) (gName j) tYes (tVar j) (tCall (Pd K 1 g) [] E (tCons (tDGet (tVar i) (tVar j)) tNil)) [j])) σ G (.dct ks ds) := fun H e Q q => by
  cases dv with
  | @dct a _ vs _ h1 h2 h3 =>
    have ha := e _ _ h1
    have l3 := h3.len
    refine ⟨a, .dK (ks.zip vs), ha, trivial, fun od => ⟨_, hv, a, od, rfl, .inl ⟨ks.zip vs, upd_same, fun D hD => ?_⟩⟩⟩
    have Da : D ≠ a := fun z => by rw [z, upd_same] at hD; cases hD
    have hD' : H D = none := by rw [upd_ne Da] at hD; exact hD
    have klen : (ks.zip vs).length = ks.length := by rw [List.length_zip]; omega
    let Gl : Hp := fun b => if b = a then none else G b
    have gla : Gl a = none := if_pos rfl
    have glo : ∀ {b}, b ≠ a → Gl b = G b := fun hb => if_neg hb
    have sl : Same Gl (upd H a (.frz od (.dK (ks.zip vs)))) := fun b o z => by
      by_cases hb : b = a
      · rw [hb, gla] at z; cases z
      · rw [glo hb] at z; rw [upd_ne hb]; exact e _ _ z
    refine ⟨fun n m H' => m = ks.length - n ∧ n ≤ ks.length ∧ ∃ G' acc, Same (upd H a (.frz od (.dK (ks.zip vs)))) H' ∧ Same Gl G' ∧ Same G' H' ∧ G' D = none ∧ (∀ b o, upd H a (.frz od (.dK (ks.zip vs))) b = some o → Gl b = none → G' b = none) ∧
      H' D = some (.dK ((ks.take n).zip acc)) ∧ DRs K G' acc (ds.take n), ⟨ks.length, rfl, Nat.zero_le _, Gl, [], same_upd (Same.refl _) hD, Same.refl _, same_upd sl (sl.free hD), sl.free hD, fun _ _ _ z => z, by simpa using upd_same, by simpa using DRs.nil⟩, ?_⟩
    rintro n m H' ⟨rfl, hn, G', acc, s1, s2, s3, gd, nn, hd, dr⟩
    have fa := s1 _ _ (upd_same (H := H) (a := a) (o := .frz od (.dK (ks.zip vs))))
    by_cases hlt : n < ks.length
    · refine .inr ⟨⟨fa, by rw [klen]; exact hlt⟩, fun H2 => ∃ G' acc, Same (upd H a (.frz od (.dK (ks.zip vs)))) H2 ∧ Same Gl G' ∧ Same G' H2 ∧ G' D = none ∧ (∀ b o, upd H a (.frz od (.dK (ks.zip vs))) b = some o → Gl b = none → G' b = none) ∧
        H2 D = some (.dK ((ks.take (n + 1)).zip acc)) ∧ DRs K G' acc (ds.take (n + 1)), fun H2 p => ⟨ks.length - (n + 1), by omega, rfl, hlt, p⟩, ?_⟩
      rintro x H2 ⟨rfl, k, w, hk, rfl⟩
      obtain ⟨hk1, hk2⟩ : ks[n]? = some k ∧ vs[n]? = some w := by
        rw [List.getElem?_zip_eq_some] at hk
        exact hk
      obtain ⟨d, hdn, dw⟩ := h3.get hk2
      obtain ⟨fd, gd1⟩ := hfl d (List.mem_of_getElem? hdn)
      refine ⟨hw _, ?_⟩
      refine yes_go (iteT ?_)
      refine ⟨_, hj _, _, hi _, _, hj _, a, w, rfl, .inl ⟨ks.zip vs, k, .inr ⟨od, fa⟩, rfl, (valV_zip nd hk1 hk2).symm⟩, G', [d], d, s3, rfl, .cons (flat_any dw fd) .nil, gd1, fun y G2 H3 n2 dy => ?_⟩
      have la : acc.length = n := by rw [dr.len, List.length_take]; omega
      have lz : ((ks.take n).zip acc).length = n := by rw [List.length_zip, List.length_take, la]; omega
      refine ⟨(ks.take n).zip acc, k, rfl, n2.s _ _ hd, small1000 (by rw [lz]; omega), G2, acc ++ [y], same_upd (s1.trans n2.s) hD, s2.trans n2.a, same_upd n2.b (n2.n _ _ hd gd), n2.n _ _ hd gd, fun b o z w => n2.n _ _ (s1 _ _ z) (nn _ _ z w), ?_, ?_⟩
      · rw [upd_same]
        have no : ((ks.take n).zip acc).any (fun kv => decide (kv.1 = k)) = false := by
          rw [List.any_eq_false]
          rintro ⟨k', z⟩ hm
          have hk' := (List.of_mem_zip hm).1
          have ne : k' ≠ k := by
            rintro rfl
            obtain ⟨m, hm1, hm2⟩ := List.getElem_of_mem hk'
            rw [List.length_take] at hm1
            rw [List.getElem_take] at hm2
            have e1 : ks[m]? = some k' := by rw [List.getElem?_eq_getElem (by omega), hm2]
            have : m = n := (List.getElem?_inj (by omega) nd).mp (e1.trans hk1.symm)
            omega
          simpa using ne
        unfold putK
        rw [no, if_neg Bool.false_ne_true, List.take_succ, hk1]
        show _ = some (HO.dK ((List.take n ks ++ [k]).zip (acc ++ [y])))
        rw [List.zip_append (by rw [List.length_take, la]; omega)]
        rfl
      · rw [List.take_succ, hdn]
        exact DRs.app (dr.up n2.a) (.cons dy .nil)
    · have en : n = ks.length := by omega
      subst en
      refine .inl ⟨⟨fa, by rw [klen]; exact Nat.le_refl _⟩, fa, ?_⟩
      rw [List.take_length] at hd
      have dr : DRs K G' acc ds := by
        have : ds.take ks.length = ds := List.take_of_length_le (by omega)
        rw [this] at dr; exact dr
      have ga' : G' a = none := nn _ _ upd_same gla
      let G2 : Hp := upd (upd G' D (.dK (ks.zip acc))) a (.dK (ks.zip vs))
      have up1 : Same G' G2 := same_upd (same_upd (Same.refl _) gd) ga'
      refine q (.ref D) G2 _ ⟨fun b o z => ?_, fun b o z => ?_, fun b o z => ?_, fun b o z w => ?_⟩ (.dct (by show upd _ _ _ _ = _; rw [upd_ne Da, upd_same]) (by rw [dr.len]; omega) (dr.up up1))
      · by_cases hb : b = a
        · subst hb; rw [ha] at z; cases z; exact upd_same
        · rw [upd_ne hb]; exact s1 _ _ (by rw [upd_ne hb]; exact z)
      · by_cases hb : b = a
        · subst hb; rw [h1] at z; cases z; exact upd_same
        · exact up1 _ _ (s2 _ _ (by rw [glo hb]; exact z))
      · by_cases hb : b = a
        · subst hb
          rw [upd_same]
          have z' : upd _ b _ b = some o := z
          rw [upd_same] at z'
          exact z'
        · rw [upd_ne hb]
          have z' : upd (upd G' D _) a _ b = some o := z
          rw [upd_ne hb] at z'
          by_cases hb2 : b = D
          · subst hb2; rw [upd_same] at z'; cases z'; exact hd
          · rw [upd_ne hb2] at z'; exact s3 _ _ z'
      · have hb : b ≠ a := fun z2 => by rw [z2, h1] at w; cases w
        have hb2 : b ≠ D := ne_of_none z hD'
        show upd (upd G' D _) a _ b = none
        rw [upd_ne hb, upd_ne hb2]
        exact nn b o (by rw [upd_ne hb]; exact z) (by rw [glo hb]; exact w)
end
end GL

set_option Elab.async false
set_option linter.all false
set_option maxRecDepth 100000
set_option maxHeartbeats 2000000
namespace GL
open PySem PySem.Spec PyProof.Rows L2
open Classical in
/-- both heaps' objects -/
noncomputable def both (G' G1 : Hp) : Hp := fun b => if (G' b).isSome = true then G' b else G1 b
theorem both_l {G' G1 : Hp} {b : Addr} {o : HO} (h : G' b = some o) : both G' G1 b = some o := by
  unfold both
  rw [if_pos (by rw [h]; rfl)]
  exact h
theorem both_r {G' G1 : Hp} {b : Addr} (h : G' b = none) : both G' G1 b = G1 b := by
  unfold both
  rw [if_neg (by rw [h]; simp)]
theorem Nw.wide {G G' H G1 H1 : Hp} (n : Nw G H G1 H1) (s : Same G G') (sh : Same G' H) : Nw G' H (both G' G1) H1 ∧ Same G1 (both G' G1) := by
  have in1 : Same G' H1 := sh.trans n.s
  refine ⟨⟨n.s, fun b o e => both_l e, fun b o e => ?_, fun b o e z => ?_⟩, fun b o e => ?_⟩
  · cases q : G' b with
    | some u => rw [both_l q] at e; cases e; exact in1 _ _ q
    | none => rw [both_r q] at e; exact n.b _ _ e
  · rw [both_r z]; exact n.n b o e (s.free z)
  · cases q : G' b with
    | some u =>
      have z := in1 _ _ q
      rw [n.b _ _ e] at z
      rw [both_l q, z]
    | none => rw [both_r q]; exact e
section
variable {K : PySem.W.Frag} {σ : L2.St} {G G' : Hp} {te ta tb : TE} {tA : TA} {t u : TT} {d d1 d2 : Da} {ds es : List Da} {b : Bool}
theorem Evd.up (h : Evd K te σ G d) (s : Same G G') : Evd K te σ G' d := fun H e Q q => h H (s.trans e) Q fun v G1 H1 n dv => let w := n.wide s e; q v _ H1 w.1 (dv.up w.2)
theorem Evs.up (h : Evs K tA σ G ds) (s : Same G G') : Evs K tA σ G' ds := fun H e Q q => h H (s.trans e) Q fun v G1 H1 n dv => let w := n.wide s e; q v _ H1 w.1 (dv.up w.2)
theorem Evt.up (h : Evt t σ G b) (s : Same G G') : Evt t σ G' b := fun H e Q q => h H (s.trans e) Q fun G1 H1 n => q _ H1 (n.wide s e).1
theorem xs_cons (h : Evd K te σ G d) (hr : Evs K tA σ G ds) : Evs K (tCons te tA) σ G (d :: ds) := es_cons h fun _ s => hr.up s
theorem x_cat (ha : Evd K ta σ G (.lst ds)) (hb : Evd K tb σ G (.lst es)) (hl : ds.length + es.length ≤ 1000 := by decide) : Evd K (tOp rCat ta tb) σ G (.lst (ds ++ es)) := ed_cat ha (fun _ s => hb.up s) hl
theorem x_isO {C D : Addr} {ns : List Str} (h : Evd K te σ G (.exc C ns ds)) (T : OGet K C) (hk : PySem.W.kitOne K (.ref C) (.ref D) = some b) : Evd K (tCB (rIsO K) (tCons te (tCons (tC (.ref D)) tNil))) σ G (.bl b) :=
  ed_isO h (fun _ _ => ed_c fun _ => .obj D) T cls_obj hk
theorem x_isT {C : Addr} {ns : List Str} {n : String} (h : Evd K te σ G (.exc C ns ds)) (T : OGet K C) (hk : PySem.W.kitOne K (.ref C) (.type n) = some b) : Evd K (tCB (rIsO K) (tCons te (tCons (tC (.ty n)) tNil))) σ G (.bl b) :=
  ed_isO h (fun _ _ => ed_c fun _ => .ty n) T cls_ty hk
theorem x_eq {p q : PyData} (ha : Evd K ta σ G d1) (hb : Evd K tb σ G d2) (h1 : d1.toP = some p) (h2 : d2.toP = some q) (n1 : p.hasDict = false) (n2 : q.hasDict = false) (s1 : SeqAt.shaped p = true) (s2 : SeqAt.shaped q = true) (hz : PyData.eqv p q = b) : Evd K (tOp (rEqD K) ta tb) σ G (.bl b) :=
  ed_eq ha (fun _ s => hb.up s) h1 h2 n1 n2 s1 s2 hz
theorem x_ne {p q : PyData} (ha : Evd K ta σ G d1) (hb : Evd K tb σ G d2) (h1 : d1.toP = some p) (h2 : d2.toP = some q) (n1 : p.hasDict = false) (n2 : q.hasDict = false) (s1 : SeqAt.shaped p = true) (s2 : SeqAt.shaped q = true) (hz : (!PyData.eqv p q) = b) : Evd K (tOp (rNeD K) ta tb) σ G (.bl b) :=
  ed_ne ha (fun _ s => hb.up s) h1 h2 n1 n2 s1 s2 hz
theorem x_nes {x y : Str} (ha : Evd K ta σ G (.str x)) (hb : Evd K tb σ G (.str y)) (hz : (!decide (x = y)) = b) : Evd K (tOp rNe ta tb) σ G (.bl b) := ed_nes ha (fun _ s => hb.up s) hz
theorem x_eqs {x y : Str} (ha : Evd K ta σ G (.str x)) (hb : Evd K tb σ G (.str y)) (hz : decide (x = y) = b) : Evd K (tOp rEq ta tb) σ G (.bl b) := ed_eqs ha (fun _ s => hb.up s) hz
theorem x_if (h : Evt t σ G b) (h1 : b = true → Evd K ta σ G d) (h2 : b = false → Evd K tb σ G d) : Evd K (tIf t ta tb) σ G d := ed_if h (fun e _ s => (h1 e).up s) fun e _ s => (h2 e).up s
theorem x_or {c : Bool} (h : Evt t σ G b) (h2 : Evt u σ G c) : Evt (tOr t u) σ G (b || c) := et_or h fun _ _ s => h2.up s
theorem x_and {c : Bool} (h : Evt t σ G b) (h2 : Evt u σ G c) : Evt (tAnd t u) σ G (b && c) := et_and h fun _ _ s => h2.up s
theorem x_andV {c : Bool} (h : Evd K ta σ G (.bl b)) (h2 : Evd K tb σ G (.bl c)) : Evd K (tAndV ta tb) σ G (.bl (b && c)) := ed_andV h fun _ _ s => h2.up s
theorem x_oex {C : Addr} {n m k : Nat} {ns : List Str} {g : List Da → Option (List Da)} {tk : TA} {zs : List Da} {E : XK} {gV : List V → List V → List V} (h : Evs K tA σ G ds) (hk : Evs K tk σ G zs) (hm : ds.length = m) (hz : zs.length = k) (order : List Da) (ho : order.length = n)
    (hg : ∀ (a : Addr) (H' : Hp) (vs ws : List V), DRs K H' vs ds → DRs K H' ws zs → ∃ us, gV (.ref a :: vs) ws = .ref a :: us ∧ DRs K H' us order) (hq : g order = some es) :
    Evd K (tOex C m k (Pi K C n ns g) gV E tA tk) σ G (.exc C ns es) := ed_oex h (fun _ s => hk.up s) hm hz order ho hg hq
/-- the fields of an error with one, with two -/
theorem x_f1 {C : Addr} {f : Str} (h : Evd K te σ G (.exc C [f] [d])) (T : OGet K C) (no : PySem.W.findIn K (.ref C) f = some none) : Evd K (tOfl K f te) σ G d := ed_ofl h T no fun vs e => by
  match vs, e with
  | [v], _ => exact ⟨0, rfl, by simp [List.lookup]⟩
theorem x_f2a {C : Addr} {f g : Str} (h : Evd K te σ G (.exc C [f, g] [d, d1])) (T : OGet K C) (no : PySem.W.findIn K (.ref C) f = some none) : Evd K (tOfl K f te) σ G d := ed_ofl h T no fun vs e => by
  match vs, e with
  | [v, w], _ => exact ⟨0, rfl, by simp [List.lookup]⟩
theorem x_f2b {C : Addr} {f g : Str} (h : Evd K te σ G (.exc C [f, g] [d1, d])) (T : OGet K C) (no : PySem.W.findIn K (.ref C) g = some none) (ne : (g == f) = false) : Evd K (tOfl K g te) σ G d := ed_ofl h T no fun vs e => by
  match vs, e with
  | [v, w], _ => exact ⟨1, rfl, by simp [List.lookup, ne]⟩
/-! several names at once -/
variable {D : Ends} {tz : TS} {H : Hp}
theorem qd_par2 {i j : Nat} (s : Same G H) (h : Evs K tA σ G [d1, d2]) (k : ∀ v w G1 H1, Nw G H G1 H1 → DR K G1 v d1 → DR K G1 w d2 → tz D ((σ.set i (some v)).set j (some w)) H1) : tSeq (tPar i j tA) tz D σ H := h H s _ fun vs G1 H1 n r => by
  cases r with
  | cons r1 r => cases r with
    | cons r2 r => cases r; exact ⟨_, _, rfl, k _ _ G1 H1 n r1 r2⟩
theorem qd_par3 {i j l : Nat} {d3 : Da} (s : Same G H) (h : Evs K tA σ G [d1, d2, d3]) (k : ∀ v w x G1 H1, Nw G H G1 H1 → DR K G1 v d1 → DR K G1 w d2 → DR K G1 x d3 → tz D (((σ.set i (some v)).set j (some w)).set l (some x)) H1) : tSeq (tPar3 i j l tA) tz D σ H := h H s _ fun vs G1 H1 n r => by
  cases r with
  | cons r1 r => cases r with
    | cons r2 r => cases r with
      | cons r3 r => cases r; exact ⟨_, _, _, rfl, k _ _ _ G1 H1 n r1 r2 r3⟩
/-- what a body of data gives back -/
theorem ret_d {Q : VK} (k : ∀ v G' H', Nw G H G' H' → DR K G' v d → Q v H') {G1 H1 : Hp} (n : Nw G H G1 H1) (h : Evd K te σ G1 d) {D : Ends} (hD : D.rt = Q) : tRet te D σ H1 := by
  refine sd_ret n.b h fun v G2 H2 n2 dv => ?_
  rw [hD]
  exact k v G2 H2 (n.trans n2) dv
end
/-! an __init__ of an own error that copies what it is given -/
section
variable {K : PySem.W.Frag} {C : Addr} {f f2 : Str} {gC : List Da → Option Da} {E : XK} {Q : VK} {a : Addr} {w w2 : V} {d d2 : Da} {G H : Hp} {D : Ends}
theorem rd_init1 (s : Same G H) (ga : G a = none) (ha : H a = some (exo a C none)) (dw : DR K G w d) (T : OexC K C) (no : PySem.W.findIn K (.ref C) f = some none) (hg : gC [d] = some d)
    (k : ∀ G' H', (∀ b o, b ≠ a → H b = some o → H' b = some o) → Same G G' → Same G' H' → (∀ b o, b ≠ a → H b = some o → G b = none → G' b = none) → DR K G' (.ref a) (.exc C [f] [d]) → Q .non H') (hD : D.nx = fun _ H' => Q .non H') :
    tOst K f (tVar 0) (tCall (Pd K 1 gC) [] E (tCons (tVar 1) tNil)) D [some (.ref a), some w] H := by
  have ev : Evd K (tCall (Pd K 1 gC) [] E (tCons (tVar 1) tNil)) [some (.ref a), some w] G d := ed_call (xs_cons (ed_var rfl dw) es_nil) rfl hg
  refine ev H s _ fun y G1 H1 n1 dy => ⟨.ref a, rfl, a, C, rfl, T, no, .inl ⟨n1.s _ _ ha, fun dx nd ne => ?_⟩⟩
  rw [hD]
  have gd : G1 dx = none := n1.b.free nd
  have g1 : G1 a = none := n1.n _ _ ha ga
  have up : Same G1 (upd (upd G1 dx (exd dx [(f, y)])) a (exo a C (some dx))) := same_upd (same_upd (Same.refl _) gd) g1
  refine k (upd (upd G1 dx (exd dx [(f, y)])) a (exo a C (some dx))) _ (fun b o hb z => ?_) (n1.a.trans up) (fun b o z => ?_) (fun b o hb z w => ?_) (.exc upd_same (by rw [upd_ne ne, upd_same]; rfl) rfl (.cons (dy.up up) .nil))
  · rw [upd_ne hb, upd_ne (ne_of_none (n1.s _ _ z) nd)]; exact n1.s _ _ z
  · by_cases hb : b = a
    · subst hb; rw [upd_same] at z ⊢; exact z
    · rw [upd_ne hb] at z ⊢
      by_cases hb2 : b = dx
      · subst hb2; rw [upd_same] at z ⊢; exact z
      · rw [upd_ne hb2] at z ⊢; exact n1.b _ _ z
  · rw [upd_ne hb, upd_ne (ne_of_none (n1.s _ _ z) nd)]; exact n1.n _ _ z w
theorem rd_init2 (s : Same G H) (ga : G a = none) (ha : H a = some (exo a C none)) (dw : DR K G w d) (dw2 : DR K G w2 d2) (T : OexC K C) (no : PySem.W.findIn K (.ref C) f = some none) (no2 : PySem.W.findIn K (.ref C) f2 = some none) (hg : gC [d] = some d) (hg2 : gC [d2] = some d2)
    (k : ∀ G' H', (∀ b o, b ≠ a → H b = some o → H' b = some o) → Same G G' → Same G' H' → (∀ b o, b ≠ a → H b = some o → G b = none → G' b = none) → DR K G' (.ref a) (.exc C [f2, f] [d2, d]) → Q .non H') (hD : D.nx = fun _ H' => Q .non H') :
    tSeq (tOst K f (tVar 0) (tCall (Pd K 1 gC) [] E (tCons (tVar 1) tNil))) (tOst K f2 (tVar 0) (tCall (Pd K 1 gC) [] E (tCons (tVar 2) tNil))) D [some (.ref a), some w, some w2] H := by
  have ev : Evd K (tCall (Pd K 1 gC) [] E (tCons (tVar 1) tNil)) [some (.ref a), some w, some w2] G d := ed_call (xs_cons (ed_var rfl dw) es_nil) rfl hg
  refine ev H s _ fun y G1 H1 n1 dy => ⟨.ref a, rfl, a, C, rfl, T, no, .inl ⟨n1.s _ _ ha, fun dx nd ne => ?_⟩⟩
  have gd : G1 dx = none := n1.b.free nd
  have g1 : G1 a = none := n1.n _ _ ha ga
  have s2 : Same G1 (upd (upd H1 dx (exd dx [(f, y)])) a (exo a C (some dx))) := same_upd (same_upd n1.b gd) g1
  have ev2 : Evd K (tCall (Pd K 1 gC) [] E (tCons (tVar 2) tNil)) [some (.ref a), some w, some w2] G1 d2 := ed_call (xs_cons (ed_var rfl (dw2.up n1.a)) es_nil) rfl hg2
  refine ev2 _ s2 _ fun y2 G2 H2 n2 dy2 => ?_
  have ha2 : H2 a = some (exo a C (some dx)) := n2.s _ _ upd_same
  have hd2 : H2 dx = some (exd dx [(f, y)]) := n2.s _ _ (by rw [upd_ne ne, upd_same])
  have g2 : G2 a = none := n2.n _ _ upd_same g1
  have gd2 : G2 dx = none := n2.n dx _ (by rw [upd_ne ne, upd_same]) gd
  refine ⟨.ref a, rfl, a, C, rfl, T, no2, .inr ⟨dx, _, ha2, hd2, (by show 1 ≤ 900; decide), ?_⟩⟩
  rw [hD]
  have up : Same G2 (upd (upd G2 dx (exd dx [(f2, y2), (f, y)])) a (exo a C (some dx))) := same_upd (same_upd (Same.refl _) gd2) g2
  refine k (upd (upd G2 dx (exd dx [(f2, y2), (f, y)])) a (exo a C (some dx))) _ (fun b o hb z => ?_) ((n1.a.trans n2.a).trans up) (fun b o z => ?_) (fun b o hb z w => ?_)
    (.exc upd_same (by rw [upd_ne ne, upd_same]; rfl) rfl (.cons (dy2.up up) (.cons ((dy.up n2.a).up up) .nil)))
  · have q1 : b ≠ dx := ne_of_none (n1.s _ _ z) nd
    rw [upd_ne q1]; exact n2.s _ _ (by rw [upd_ne hb, upd_ne q1]; exact n1.s _ _ z)
  · by_cases hb : b = a
    · subst hb; rw [upd_same] at z; cases z; rw [upd_ne ne.symm]; exact ha2
    · rw [upd_ne hb] at z
      by_cases hb2 : b = dx
      · subst hb2; rw [upd_same] at z ⊢; exact z
      · rw [upd_ne hb2] at z ⊢; exact n2.b _ _ z
  · have q1 : b ≠ dx := ne_of_none (n1.s _ _ z) nd
    rw [upd_ne hb, upd_ne q1]
    exact n2.n b o (by rw [upd_ne hb, upd_ne q1]; exact n1.s _ _ z) (n1.n _ _ z w)
end
end GL

set_option Elab.async false
set_option linter.all false
set_option maxRecDepth 100000
set_option maxHeartbeats 2000000
namespace GL
open PySem PySem.Spec PyProof.Rows L2
/-- a def that may be called by its name -/
structure CalG (P : Program) (w : World) (K : PySem.W.Frag) (mg : Str → Option Value) (base : Heap) (k : Nat) (x : Str) (ps : List Str) (sp : Sp) : Prop where
  ex : ∃ f fd, FnG P w K mg base CX0 k f fd ps sp ∧ mg x = some (.ref f) ∧ PySem.W.keepIn K (.ref f) = true ∧ L2.Binds K fd ps []
section
variable {X : Cx} {k : Nat} {x : Str} {ps : List Str} {sp : Sp} {p pos : Pos} {e : Expr} {es : List Expr} {t : TA}
theorem pe_cal (c : CalG X.prog X.w X.K X.mg X.base k x ps sp) (hq : Quiet X.A) (hr : Room k X.A) (hg : Gl X x) (ha : PA X (e :: es) t) (hdb : (x == ("__debug__" : Str)) = false := by decide)
    (he : starEach (e :: es) X.env = (false, eval e X.env) :: starEach es X.env := by rfl) (hpl : (backTo pos (starEach es X.env)).any (·.1) = false := by rfl) : PE X (.Call (.Name x p) (e :: es) [] pos) (tCall sp [] E0 t) := by
  obtain ⟨f, fd, F, hm, hk, hb⟩ := c.ex
  exact pe_cg F hq hr hg hm hk hb .nil pass0 ha hdb he hpl
end
/-! rules that name the written part, so that a block's own context may stand in them -/
section
variable {X : Cx} {K : PySem.W.Frag} {x f : Str} {C : Addr} {p pos : Pos} {e a b : Expr} {es : List Expr} {te ta tb : TE} {t : TA}
theorem pe_own (hm : X.mg x = some (.ref C)) (hg : Gl X x) (hd : (x == ("__debug__" : Str)) = false := by decide) : PE X (.Name x pos) (tC (.ref C)) := pe_glob hg hm rfl hd
theorem pe_oflK (hK : X.K = K) (he : PE X e te) (hb : attributeBase e f X.env (eval e X.env) = eval e X.env := by rfl) : PE X (.Attribute e f pos) (tOfl K f te) := by subst hK; exact pe_ofl he hb
theorem pe_repr (hK : X.K = K) (hs : SysAt X.base) (hq : Quiet X.A) (hu : X.A.units + 64 < cLine) (hm : X.mg "repr" = none) (hg : Gl X "repr") (ha : PE X e te) (hst : starEach [e] X.env = (false, eval e X.env) :: starEach [] X.env := by rfl) (hpl : (backTo pos (starEach [] X.env)).any (·.1) = false := by rfl) :
    PE X (.Call (.Name "repr" p) [e] [] pos) (tCB (rRepr K) (tCons te tNil)) := by
  subst hK
  exact pe_callB (call_repr hs hq hu) hg hm (by decide +kernel) (pa_cons ha pa_nil hst) (by decide) (by decide) hst hpl
theorem pe_isO (hK : X.K = K) (hm : X.mg "isinstance" = none) (hg : Gl X "isinstance") (ha : PA X (e :: es) t) (he : starEach (e :: es) X.env = (false, eval e X.env) :: starEach es X.env := by rfl) (hpl : (backTo pos (starEach es X.env)).any (·.1) = false := by rfl) :
    PE X (.Call (.Name "isinstance" p) (e :: es) [] pos) (tCB (rIsO K) t) := by
  subst hK
  exact pe_callB call_isO hg hm PyProof.Rows.boot_isinstance ha (by decide) (by decide) he hpl
theorem pe_eqD (hK : X.K = K) (hu : X.A.units + 64 < cLine) (ha : PE X a ta) (hb : PE X b tb) : PE X (.Compare a [.Eq] [b] pos) (tOp (rEqD K) ta tb) := by subst hK; exact pe_cmpR (op_eqD hu) ha hb (nomark _)
theorem pe_neD (hK : X.K = K) (hu : X.A.units + 64 < cLine) (ha : PE X a ta) (hb : PE X b tb) : PE X (.Compare a [.NotEq] [b] pos) (tOp (rNeD K) ta tb) := by subst hK; exact pe_cmpR (op_neD hu) ha hb (nomark _)
theorem pt_eqD (hK : X.K = K) (hu : X.A.units + 64 < cLine) (ha : PE X a ta) (hb : PE X b tb) : PT X (.Compare a [.Eq] [b] pos) (tTest (tOp (rEqD K) ta tb)) := by subst hK; exact pt_cmpR (op_eqD hu) ha hb (nomark _)
theorem pt_neD (hK : X.K = K) (hu : X.A.units + 64 < cLine) (ha : PE X a ta) (hb : PE X b tb) : PT X (.Compare a [.NotEq] [b] pos) (tTest (tOp (rNeD K) ta tb)) := by subst hK; exact pt_cmpR (op_neD hu) ha hb (nomark _)
end
/-- a def whose value has to do with its arguments' data -/
def Pr (K : PySem.W.Frag) (n : Nat) (R : List Da → Da → Prop) : Sp := fun vs H Q _ => ∃ G ds d, Same G H ∧ ds.length = n ∧ DRs K G vs ds ∧ R ds d ∧ ∀ v G' H', Nw G H G' H' → DR K G' v d → Q v H'
theorem Pr.len {K : PySem.W.Frag} {n : Nat} {R : List Da → Da → Prop} (vs : List V) (H : Hp) (Q : VK) (E : XK) (h : Pr K n R vs H Q E) : vs.length = n := by
  obtain ⟨_, ds, d, _, hl, r, _⟩ := h
  rw [r.len, hl]
section
variable {K : PySem.W.Frag} {σ : L2.St} {G : Hp} {te ta tb : TE} {tA : TA} {t u : TT} {d d1 d2 : Da} {ds es : List Da} {b : Bool} {E : XK}
theorem x_callR {n : Nat} {R : List Da → Da → Prop} (h : Evs K tA σ G ds) (hl : ds.length = n) (hR : R ds d) : Evd K (tCall (Pr K n R) [] E tA) σ G d := fun H e Q q =>
  h H e _ fun vs G1 H1 n1 dvs => ⟨G1, ds, d, n1.b, hl, by rw [List.append_nil]; exact dvs, hR, fun v G2 H2 n2 dv => q v G2 H2 (n1.trans n2) dv⟩
theorem xc_str {x : Str} : Evd K (tC (.str x)) σ G (.str x) := ed_c fun _ => .str x
theorem xc_int {i : Int} : Evd K (tC (.int i)) σ G (.int i) := ed_c fun _ => .int i
theorem xc_bl {b : Bool} : Evd K (tC (.bl b)) σ G (.bl b) := ed_c fun _ => .bl b
theorem xc_non : Evd K (tC .non) σ G .non := ed_c fun _ => .non
theorem x_tup (h : Evs K tA σ G ds) (hl : Nat.ble ds.length 1000 = true := by rfl) : Evd K (tTup tA) σ G (.tup ds) := ed_tup h (Nat.le_of_ble_eq_true hl)
theorem x_lst (h : Evs K tA σ G ds) (hl : Nat.ble ds.length 1000 = true := by rfl) : Evd K (tLst tA) σ G (.lst ds) := ed_lst h (Nat.le_of_ble_eq_true hl)
theorem x_catb (ha : Evd K ta σ G (.lst ds)) (hb : Evd K tb σ G (.lst es)) (hl : Nat.ble (ds.length + es.length) 1000 = true := by rfl) : Evd K (tOp rCat ta tb) σ G (.lst (ds ++ es)) := x_cat ha hb (Nat.le_of_ble_eq_true hl)
end
theorem two_of {K : PySem.W.Frag} {H : Hp} {vs : List V} {a b : Da} (h : DRs K H vs [a, b]) : ∃ v w, vs = [v, w] ∧ DR K H v a ∧ DR K H w b := by
  cases h with | cons h1 h => cases h with | cons h2 h => cases h; exact ⟨_, _, rfl, h1, h2⟩
theorem three_of {K : PySem.W.Frag} {H : Hp} {vs : List V} {a b c : Da} (h : DRs K H vs [a, b, c]) : ∃ v u x, vs = [v, u, x] ∧ DR K H v a ∧ DR K H u b ∧ DR K H x c := by
  cases h with | cons h1 h => cases h with | cons h2 h => cases h with | cons h3 h => cases h; exact ⟨_, _, _, rfl, h1, h2, h3⟩
theorem one_of {K : PySem.W.Frag} {H : Hp} {vs : List V} {a : Da} (h : DRs K H vs [a]) : ∃ v, vs = [v] ∧ DR K H v a := by
  cases h with | cons h1 h => cases h; exact ⟨_, rfl, h1⟩
theorem none_of {K : PySem.W.Frag} {H : Hp} {vs : List V} (h : DRs K H vs []) : vs = [] := by
  cases h; rfl
end GL

set_option Elab.async false
set_option linter.all false
set_option maxRecDepth 100000
set_option maxHeartbeats 2000000
namespace GL
open PySem PySem.Spec PyProof.Rows L2
/-! an own error that is raised: its __init__ copies its arguments into the fields ns (the newest first) -/
def Pk (K : PySem.W.Frag) (C : Addr) (n : Nat) (ns : List Str) (g : List Da → Option (List Da)) : Sp := fun vs H Q _ => ∃ G a ws ds es, vs = .ref a :: ws ∧ ds.length = n ∧ Same G H ∧ G a = none ∧ H a = some (exo a C none) ∧ DRs K G ws ds ∧ g ds = some es ∧
  ∀ G' H' dx us, (∀ b o, b ≠ a → H b = some o → H' b = some o) → Same G G' → Same G' H' → (∀ b o, H b = some o → G b = none → G' b = none) → H' a = some (exo a C (some dx)) → H' dx = some (exd dx (ns.zip us)) → H dx = none → dx ≠ a → G' dx = none → ns.length = us.length → DRs K G' us es → Q .non H'
theorem Pk.len {K : PySem.W.Frag} {C : Addr} {n : Nat} {ns : List Str} {g : List Da → Option (List Da)} (vs : List V) (H : Hp) (Q : VK) (E : XK) (h : Pk K C n ns g vs H Q E) : vs.length = n + 1 := by
  obtain ⟨_, a, ws, ds, es, rfl, hl, _, _, _, r, _⟩ := h
  rw [List.length_cons, r.len, hl]
section
variable {K : PySem.W.Frag} {C : Addr} {f f2 : Str} {gC : List Da → Option Da} {E : XK} {Q : VK} {a : Addr} {w w2 : V} {d d2 : Da} {G H : Hp} {D : Ends}
theorem rk_init1 (s : Same G H) (ga : G a = none) (ha : H a = some (exo a C none)) (dw : DR K G w d) (T : OexC K C) (no : PySem.W.findIn K (.ref C) f = some none) (hg : gC [d] = some d)
    (k : ∀ G' H' dx us, (∀ b o, b ≠ a → H b = some o → H' b = some o) → Same G G' → Same G' H' → (∀ b o, H b = some o → G b = none → G' b = none) → H' a = some (exo a C (some dx)) → H' dx = some (exd dx ([f].zip us)) → H dx = none → dx ≠ a → G' dx = none → [f].length = us.length → DRs K G' us [d] → Q .non H') (hD : D.nx = fun _ H' => Q .non H') :
    tOst K f (tVar 0) (tCall (Pd K 1 gC) [] E (tCons (tVar 1) tNil)) D [some (.ref a), some w] H := by
  have ev : Evd K (tCall (Pd K 1 gC) [] E (tCons (tVar 1) tNil)) [some (.ref a), some w] G d := ed_call (xs_cons (ed_var rfl dw) es_nil) rfl hg
  refine ev H s _ fun y G1 H1 n1 dy => ⟨.ref a, rfl, a, C, rfl, T, no, .inl ⟨n1.s _ _ ha, fun dx nd ne => ?_⟩⟩
  rw [hD]
  have gd : G1 dx = none := n1.b.free nd
  have g1 : G1 a = none := n1.n _ _ ha ga
  refine k G1 _ dx [y] (fun b o hb z => ?_) n1.a (fun b o z => ?_) n1.n upd_same (by rw [upd_ne ne, upd_same]; rfl) (n1.s.free nd) ne gd rfl (.cons dy .nil)
  · rw [upd_ne hb, upd_ne (ne_of_none (n1.s _ _ z) nd)]; exact n1.s _ _ z
  · rw [upd_ne (ne_of_none z g1), upd_ne (ne_of_none z gd)]; exact n1.b _ _ z
theorem rk_init2 (s : Same G H) (ga : G a = none) (ha : H a = some (exo a C none)) (dw : DR K G w d) (dw2 : DR K G w2 d2) (T : OexC K C) (no : PySem.W.findIn K (.ref C) f = some none) (no2 : PySem.W.findIn K (.ref C) f2 = some none) (hg : gC [d] = some d) (hg2 : gC [d2] = some d2)
    (k : ∀ G' H' dx us, (∀ b o, b ≠ a → H b = some o → H' b = some o) → Same G G' → Same G' H' → (∀ b o, H b = some o → G b = none → G' b = none) → H' a = some (exo a C (some dx)) → H' dx = some (exd dx ([f2, f].zip us)) → H dx = none → dx ≠ a → G' dx = none → [f2, f].length = us.length → DRs K G' us [d2, d] → Q .non H') (hD : D.nx = fun _ H' => Q .non H') :
    tSeq (tOst K f (tVar 0) (tCall (Pd K 1 gC) [] E (tCons (tVar 1) tNil))) (tOst K f2 (tVar 0) (tCall (Pd K 1 gC) [] E (tCons (tVar 2) tNil))) D [some (.ref a), some w, some w2] H := by
  have ev : Evd K (tCall (Pd K 1 gC) [] E (tCons (tVar 1) tNil)) [some (.ref a), some w, some w2] G d := ed_call (xs_cons (ed_var rfl dw) es_nil) rfl hg
  refine ev H s _ fun y G1 H1 n1 dy => ⟨.ref a, rfl, a, C, rfl, T, no, .inl ⟨n1.s _ _ ha, fun dx nd ne => ?_⟩⟩
  have gd : G1 dx = none := n1.b.free nd
  have g1 : G1 a = none := n1.n _ _ ha ga
  have s2 : Same G1 (upd (upd H1 dx (exd dx [(f, y)])) a (exo a C (some dx))) := same_upd (same_upd n1.b gd) g1
  have ev2 : Evd K (tCall (Pd K 1 gC) [] E (tCons (tVar 2) tNil)) [some (.ref a), some w, some w2] G1 d2 := ed_call (xs_cons (ed_var rfl (dw2.up n1.a)) es_nil) rfl hg2
  refine ev2 _ s2 _ fun y2 G2 H2 n2 dy2 => ?_
  have ha2 : H2 a = some (exo a C (some dx)) := n2.s _ _ upd_same
  have hd2 : H2 dx = some (exd dx [(f, y)]) := n2.s _ _ (by rw [upd_ne ne, upd_same])
  have g2 : G2 a = none := n2.n _ _ upd_same g1
  have gd2 : G2 dx = none := n2.n dx _ (by rw [upd_ne ne, upd_same]) gd
  refine ⟨.ref a, rfl, a, C, rfl, T, no2, .inr ⟨dx, _, ha2, hd2, (by show 1 ≤ 900; decide), ?_⟩⟩
  rw [hD]
  refine k G2 _ dx [y2, y] (fun b o hb z => ?_) (n1.a.trans n2.a) (fun b o z => ?_) (fun b o z w => ?_) (by rw [upd_ne (Ne.symm ne)]; exact ha2) upd_same (n1.s.free nd) ne gd2 rfl (.cons dy2 (.cons (dy.up n2.a) .nil))
  · have q1 : b ≠ dx := ne_of_none (n1.s _ _ z) nd
    rw [upd_ne q1]; exact n2.s _ _ (by rw [upd_ne hb, upd_ne q1]; exact n1.s _ _ z)
  · rw [upd_ne (ne_of_none z gd2)]; exact n2.b _ _ z
  · have q1 : b ≠ dx := ne_of_none (n1.s _ _ z) nd
    by_cases hb : b = a
    · subst hb; exact g2
    · exact n2.n b o (by rw [upd_ne hb, upd_ne q1]; exact n1.s _ _ z) (n1.n _ _ z w)
end
/-- an error with the fields ns, their data es, flies to E -/
def ErrTo (K : PySem.W.Frag) (G H : Hp) (E : XK) (C : Addr) (ns : List Str) (es : List Da) : Prop := ∀ G' H' dx us, Nw G H G' H' → H' dx = some (.xd (ns.zip us)) → ns.length = us.length → DRs K G' us es → E (.ref C) (some dx) H'
theorem ErrTo.of {K : PySem.W.Frag} {G H G1 H1 : Hp} {E : XK} {C : Addr} {ns : List Str} {es : List Da} (h : ErrTo K G H E C ns es) (n : Nw G H G1 H1) : ErrTo K G1 H1 E C ns es := fun G' H' dx us m a b c => h G' H' dx us (n.trans m) a b c
/-- raise C(e, ..) -/
theorem rz_mk {K : PySem.W.Frag} {σ : L2.St} {G H : Hp} {C : Addr} {n : Nat} {ns : List Str} {g : List Da → Option (List Da)} {ta : TA} {ds es : List Da} {Q : XK} (s : Same G H) (h : Evs K ta σ G ds) (hn : ds.length = n) (h1 : n ≤ 1000) (hg : g ds = some es) (k : ErrTo K G H Q C ns es) :
    tMkO C (Pk K C n ns g) [] ta σ H Q := h H s _ fun vs G1 H1 n1 dvs => ⟨by rw [dvs.len, hn]; exact h1, fun a ha => by
  have g1 : G1 a = none := n1.b.free ha
  rw [List.append_nil]
  refine ⟨G1, a, vs, ds, es, rfl, hn, same_upd n1.b g1, g1, upd_same, dvs, hg, fun G' H' dx us k1 k2 k3 k4 e1 e2 e3 ne e4 e5 dd => ⟨rfl, dx, ns.zip us, e1, e2, ?_, ?_⟩⟩
  · rw [upd_ne ne] at e3; exact e3
  · have h1d : H1 dx = none := by rw [upd_ne ne] at e3; exact e3
    have ga : G' a = none := k4 a _ upd_same g1
    refine k G' _ dx us (n1.trans ⟨fun b o z => ?_, k2, fun b o z => ?_, fun b o z w => k4 b o (by rw [upd_ne (ne_of_none z ha)]; exact z) w⟩) upd_same e5 dd
    · rw [upd_ne (ne_of_none z h1d), del_ne (ne_of_none z ha)]
      exact k1 b o (ne_of_none z ha) (by rw [upd_ne (ne_of_none z ha)]; exact z)
    · rw [upd_ne (ne_of_none z e4), del_ne (ne_of_none z ga)]
      exact k3 _ _ z⟩
/-! a kept error: its fields, its class -/
def tOfk (K : PySem.W.Frag) (f : Str) (te : TE) : TE := fun σ H Q => te σ H fun x H1 => ∃ (a C dx : Addr) (fs : List (Str × V)) (v : V), x = .ref a ∧ OGet K C ∧ PySem.W.findIn K (.ref C) f = some none ∧ H1 a = some (exk a C (some dx)) ∧ H1 dx = some (.xd fs) ∧ fs.lookup f = some v ∧ Q v H1
def rIsK (K : PySem.W.Frag) : List V → Hp → VK → Prop := fun xs H Q => ∃ (a C dx : Addr) (fs : List (Str × V)) (c : V) (u : Value) (b : Bool), xs = [.ref a, c] ∧ ClsV c u ∧ OGet K C ∧ H a = some (exk a C (some dx)) ∧ H dx = some (.xd fs) ∧ PySem.W.kitOne K (.ref C) u = some b ∧ Q (.bl b) H
section
variable {X : Cx} {K : PySem.W.Frag} {e : Expr} {es : List Expr} {te : TE} {t : TA} {f : Str} {p pos : Pos}
theorem xd_at {P : Program} {w : World} {H : Hp} {h : Heap} {dx : Addr} {fs : List (Str × V)} (ok : HOk P w H h) (e : H dx = some (.xd fs)) : ∃ mA, h.Ns1 dx mA ∧ ∀ f, RelO (fs.lookup f) (mA f) := ok dx _ e
theorem pe_ofk (hK : X.K = K) (he : PE X e te) (hb : attributeBase e f X.env (eval e X.env) = eval e X.env := by rfl) : PE X (.Attribute e f pos) (tOfk K f te) := by
  subst hK
  refine ⟨fun pins s σ H Q I h => attr_of hb (thn (he.run pins s σ H _ I h) fun u s1 ⟨x, H1, I1, rx, a, C, dx, fs, v, ex, T, hno, ea, ed, hl, q⟩ => ?_)⟩
  subst ex
  obtain rfl : u = Value.ref a := rx
  obtain ⟨ob, vs, ho, hc, hd, hf⟩ := exk_at I1.hok ea
  obtain ⟨mA, hns, rel⟩ := xd_at I1.hok ed
  obtain ⟨od, hod, hlk⟩ := lookIn_ns hns
  obtain ⟨u, hu, ru⟩ := RelO.some_of (v := v) (o := mA f) (by rw [← hl]; exact rel f)
  have J : PySem.W.InstAt s1.heap a ob C (some od) := ⟨ho, hc, by unfold PySem.W.notCls; rw [hf], by rw [hd]; exact hod⟩
  exact HandSPX.exc_get I1.kIn J T.hg T.hk T.hs (PySem.W.findObj_own T.hd hno rfl (by rw [hlk, hu])) (handed_of ru) ⟨v, H1, I1.tok _, ru, q⟩
theorem pe_isK (hK : X.K = K) (hm : X.mg "isinstance" = none) (hg : Gl X "isinstance") (ha : PA X (e :: es) t) (he : starEach (e :: es) X.env = (false, eval e X.env) :: starEach es X.env := by rfl) (hpl : (backTo pos (starEach es X.env)).any (·.1) = false := by rfl) :
    PE X (.Call (.Name "isinstance" p) (e :: es) [] pos) (tCB (rIsK K) t) := by
  subst hK
  refine pe_callB (fun pins s σ H xs us Q I r h => ?_) hg hm PyProof.Rows.boot_isinstance ha (by decide) (by decide) he hpl
  obtain ⟨a, C, dx, fs, c, u, b, rfl, kc, T, ea, ed, e, q⟩ := h
  obtain ⟨u1, u2, rfl, r1, r2⟩ := vals2 r
  have e2 := kc.eq r2
  subst e2
  obtain rfl : u1 = Value.ref a := r1
  obtain ⟨ob, vs, ho, hc, hd, hf⟩ := exk_at I.hok ea
  obtain ⟨mA, hns, rel⟩ := xd_at I.hok ed
  obtain ⟨od, hod, hlk⟩ := lookIn_ns hns
  have J : PySem.W.InstAt s.heap a ob C (some od) := ⟨ho, hc, by unfold PySem.W.notCls; rw [hf], by rw [hd]; exact hod⟩
  exact PySem.W.kia_one (PySem.W.kitx_exc T.hc T.hg T.hk T.hs T.ha T.hn T.ht T.hm) I.kIn J e (fun z => nomatch z) fun tk => ⟨.bl b, H, I.tok tk, rfl, q⟩
end
end GL

set_option Elab.async false
set_option linter.all false
set_option autoImplicit false
set_option maxRecDepth 100000
set_option maxHeartbeats 2000000
namespace GL
open PySem PySem.Spec PyProof.Rows L2
/-! texts as data: walks over their signs, over a range, len, in, split, all -/
section
variable {K : PySem.W.Frag} {σ : L2.St} {G : Hp} {te ta tb tc : TE} {tt : TT} {d : Da} {ds : List Da} {g : TG} {vs : List Nat} {z y : Str} {i j : Int} {b : Bool}
/-- a comprehension over anything whose items are fixed: flat values xs, as data ds -/
theorem ed_lcJ {wi : TI} (J : It) (xs : List V) (p : Da → Bool) (f : Da → Da) (hwi : ∀ H, Same G H → ∀ R : It → Hp → Prop, (∀ G1 H1, Nw G H G1 H1 → R J H1) → wi σ H R)
    (j1 : ∀ i H, xs.length ≤ i → J.stop i H) (j2 : ∀ i H, i < xs.length → J.go i H) (j3 : ∀ i H v H', i < xs.length → J.yld i H v H' → H' = H ∧ xs[i]? = some v) (hx : ∀ G', DRs K G' xs ds) (hz : ds.length ≤ 1000)
    (hs : ∀ x d G' H', Same G G' → Same G' H' → d ∈ ds → DR K G' x d → ∃ σ2, (∀ k : L2.St → Hp → Prop, k σ2 H' → g x (wipe σ vs) H' k) ∧ wipe σ2 vs = wipe σ vs ∧ Evt tt σ2 G' (p d) ∧ (p d = true → ∀ G2, Same G' G2 → Evd K te σ2 G2 (f d))) :
    Evd K (tLc wi g tt te vs) σ G (.lst ((ds.filter p).map f)) := fun H e Q q => hwi H e _ fun G1 H1 n1 D hD => by
  have gD : G1 D = none := n1.b.free hD
  have lx : xs.length = ds.length := (hx G).len
  let Pv : Nat → Hp → Prop := fun i H' => ∃ G' acc, Same H1 H' ∧ Same G1 G' ∧ Same G' H' ∧ G' D = none ∧ (∀ b o, H1 b = some o → G1 b = none → G' b = none) ∧ H' D = some (.lst acc) ∧ DRs K G' acc (((ds.take i).filter p).map f)
  refine ⟨fun i m H' => m = xs.length - i ∧ i ≤ xs.length ∧ Pv i H', ⟨xs.length, by simp, Nat.zero_le _, G1, [], same_upd (Same.refl _) hD, Same.refl _, same_upd n1.b gD, gD, fun _ _ _ z => z, upd_same, by simpa using DRs.nil⟩, ?_⟩
  rintro i m H' ⟨rfl, hi, G', acc, s1, s2, s3, gd, nn, hd, dr⟩
  by_cases hlt : i < xs.length
  · refine .inr ⟨j2 i H' hlt, Pv (i + 1), fun H2 p2 => ⟨xs.length - (i + 1), by omega, rfl, hlt, p2⟩, fun x H2 hy => ?_⟩
    obtain ⟨rfl, hxi⟩ := j3 i H' x H2 hlt hy
    obtain ⟨d, hdi, dx⟩ := (hx G').get hxi
    have hmem : d ∈ ds := List.mem_of_getElem? hdi
    have lacc : acc.length ≤ 1000 := by
      rw [dr.len, List.length_map]
      exact Nat.le_trans (Nat.le_trans (List.length_filter_le _ _) (by rw [List.length_take]; omega)) hz
    have step : (ds.take (i + 1)).filter p = (ds.take i).filter p ++ (if p d = true then [d] else []) := by
      rw [List.take_succ, hdi, List.filter_append]
      by_cases hp : p d = true
      · simp [hp]
      · simp [hp]
    obtain ⟨σ2, k1, k2, k3, k4⟩ := hs x d G' H2 (n1.a.trans s2) s3 hmem dx
    refine k1 _ ⟨k2, k3 H2 s3 _ fun G2 H3 n2 => ?_⟩
    have gd2 : G2 D = none := n2.n _ _ hd gd
    cases hp : p d with
    | true =>
      show te σ2 H3 _
      refine k4 hp G2 n2.a H3 n2.b _ fun y G3 H4 n3 dy => ⟨acc, n3.s _ _ (n2.s _ _ hd), small1000 lacc, G3, acc ++ [y], same_upd ((s1.trans n2.s).trans n3.s) hD, (s2.trans n2.a).trans n3.a, same_upd n3.b (n3.n _ _ (n2.s _ _ hd) gd2), n3.n _ _ (n2.s _ _ hd) gd2, fun b o z w => ?_, upd_same, ?_⟩
      · exact n3.n _ _ (n2.s _ _ (s1 _ _ z)) (n2.n _ _ (s1 _ _ z) (nn _ _ z w))
      · rw [step, if_pos hp, List.map_append]
        exact DRs.app ((dr.up n2.a).up n3.a) (.cons dy .nil)
    | false =>
      show Pv (i + 1) H3
      refine ⟨G2, acc, s1.trans n2.s, s2.trans n2.a, n2.b, gd2, fun b o z w => n2.n _ _ (s1 _ _ z) (nn _ _ z w), n2.s _ _ hd, ?_⟩
      rw [step, if_neg (by rw [hp]; exact Bool.false_ne_true), List.append_nil]
      exact dr.up n2.a
  · have ei : i = xs.length := by omega
    subst ei
    refine .inl ⟨j1 _ _ (Nat.le_refl _), ?_⟩
    rw [lx, List.take_length] at dr
    have up1 : Same G' (upd G' D (.lst acc)) := same_upd (Same.refl _) gd
    refine q (.ref D) (upd G' D (.lst acc)) H' (n1.trans ⟨s1, s2.trans up1, fun b o z => ?_, fun b o z w => ?_⟩) (.lst upd_same (dr.up up1))
    · by_cases hb : b = D
      · subst hb; rw [upd_same] at z; cases z; exact hd
      · rw [upd_ne hb] at z; exact s3 _ _ z
    · rw [upd_ne (ne_of_none z hD)]
      exact nn _ _ z w
theorem drs_map {α : Type} {K : PySem.W.Frag} {G : Hp} {f : α → V} {g : α → Da} (h : ∀ a, DR K G (f a) (g a)) : ∀ xs : List α, DRs K G (xs.map f) (xs.map g)
  | [] => .nil
  | a :: r => .cons (h a) (drs_map h r)
def sgn (c : Nat) : Str := ⟨#[c]⟩
/-- over the signs of a text -/
theorem ed_lcS (p : Da → Bool) (f : Da → Da) (h : Evd K tb σ G (.str z)) (hz : z.length ≤ 1000)
    (hs : ∀ x d G' H', Same G G' → Same G' H' → d ∈ z.cps.toList.map (fun c => Da.str (sgn c)) → DR K G' x d → ∃ σ2, (∀ k : L2.St → Hp → Prop, k σ2 H' → g x (wipe σ vs) H' k) ∧ wipe σ2 vs = wipe σ vs ∧ Evt tt σ2 G' (p d) ∧ (p d = true → ∀ G2, Same G' G2 → Evd K te σ2 G2 (f d))) :
    Evd K (tLc (iStr tb) g tt te vs) σ G (.lst (((z.cps.toList.map fun c => Da.str (sgn c)).filter p).map f)) :=
  ed_lcJ (Its z) (z.cps.toList.map fun c => V.str (sgn c)) p f (fun H e R k => h H e _ fun v G1 H1 n1 dv => by cases dv; exact ⟨z, rfl, k G1 H1 n1⟩)
    (fun i H hi => by rw [List.length_map, Array.length_toList] at hi; exact hi) (fun i H hi => by rw [List.length_map, Array.length_toList] at hi; exact hi)
    (fun i H v H' hi ⟨e, c, hc, hv⟩ => ⟨e, by rw [List.getElem?_map, Array.getElem?_toList, hc, hv]; rfl⟩) (fun G' => drs_map (fun c => .str _) _) (by rw [List.length_map, Array.length_toList]; exact hz) hs
/-- over range(n) -/
theorem ed_lcR {n : Nat} (p : Da → Bool) (f : Da → Da) (h : Evd K tb σ G (.int (n : Int))) (hz : n ≤ 1000)
    (hs : ∀ x d G' H', Same G G' → Same G' H' → d ∈ (List.range n).map (fun k : Nat => Da.int (k : Int)) → DR K G' x d → ∃ σ2, (∀ k : L2.St → Hp → Prop, k σ2 H' → g x (wipe σ vs) H' k) ∧ wipe σ2 vs = wipe σ vs ∧ Evt tt σ2 G' (p d) ∧ (p d = true → ∀ G2, Same G' G2 → Evd K te σ2 G2 (f d))) :
    Evd K (tLc (iRng1 (tCons tb tNil)) g tt te vs) σ G (.lst (((List.range n).map fun k : Nat => Da.int (k : Int)).filter p |>.map f)) :=
  ed_lcJ (Itr 0 n) ((List.range n).map fun k : Nat => V.int (k : Int)) p f (fun H e R k => h H e _ fun v G1 H1 n1 dv => by cases dv; exact ⟨(n : Int), rfl, by omega, by omega, k G1 H1 n1⟩)
    (fun i H hi => by rw [List.length_map, List.length_range] at hi; exact hi) (fun i H hi => by rw [List.length_map, List.length_range] at hi; exact hi)
    (fun i H v H' hi ⟨e, hv⟩ => ⟨e, by rw [List.length_map, List.length_range] at hi; rw [List.getElem?_map, List.getElem?_range hi, hv]; simp⟩) (fun G' => drs_map (fun c => .int _) _) (by rw [List.length_map, List.length_range]; exact hz) hs
/-! len, order, in -/
def rLenS1 : List V → Hp → VK → Prop := fun xs H Q => ∃ z, xs = [.str z] ∧ z.length ≤ sizeLine ∧ Q (.int z.length) H
theorem ed_lenS (h : Evd K te σ G (.str z)) (hz : z.length ≤ 1000) : Evd K (tCB rLenS1 (tCons te tNil)) σ G (.int z.length) := fun H e Q q => h H e _ fun v G1 H1 n1 dv => by
  cases dv
  exact ⟨z, rfl, sizeK hz, q _ G1 H1 n1 (.int _)⟩
/-- a <= x <= b -/
theorem ed_le2 {a x c : Int} (ha : Evd K ta σ G (.int a)) (hb : Evd K tb σ G (.int x)) (hc : Evd K tc σ G (.int c)) :
    Evd K (tChain (rI0 fun i j => .bl (decide (i ≤ j))) (rI0 fun i j => .bl (decide (i ≤ j))) ta tb tc) σ G (.bl (decide (a ≤ x) && decide (x ≤ c))) := fun H e Q q => ha H e _ fun v G1 H1 n1 dv => hb.up n1.a H1 n1.b _ fun w G2 H2 n2 dw => by
  cases dv; cases dw
  refine ⟨a, x, rfl, rfl, _, rfl, ?_⟩
  cases h1 : decide (a ≤ x) with
  | true =>
    show tc σ H2 _
    refine hc.up (n1.a.trans n2.a) H2 n2.b _ fun u G3 H3 n3 du => ?_
    cases du
    exact ⟨x, c, rfl, rfl, q _ G3 H3 ((n1.trans n2).trans n3) (by rw [h1]; exact .bl _)⟩
  | false =>
    show Q (.bl false) H2
    exact q _ G2 H2 (n1.trans n2) (by rw [h1]; exact .bl _)
theorem ed_inS {c : Nat} (ha : Evd K ta σ G (.str (sgn c))) (hb : Evd K tb σ G (.str y)) : Evd K (tOp rInS ta tb) σ G (.bl (decide (c ∈ y.cps.toList))) :=
  ed_two ha (fun _ s => hb.up s) fun v w G' H' _ e dv dw Q q => by
    cases dv; cases dw
    unfold rInS
    exact ⟨c, y, rfl, rfl, q _ G' H' (Nw.refl e) (.bl _)⟩
theorem ed_notInS {c : Nat} (ha : Evd K ta σ G (.str (sgn c))) (hb : Evd K tb σ G (.str y)) : Evd K (tOp rNotInS ta tb) σ G (.bl (!decide (c ∈ y.cps.toList))) :=
  ed_two ha (fun _ s => hb.up s) fun v w G' H' _ e dv dw Q q => by
    cases dv; cases dw
    unfold rNotInS
    exact ⟨c, y, rfl, rfl, q _ G' H' (Nw.refl e) (.bl _)⟩
theorem bls_of : ∀ {G : Hp} {xs : List V} (bs : List Bool), DRs K G xs (bs.map Da.bl) → xs = bs.map V.bl
  | _, _, [], h => by cases h; rfl
  | _, _, b :: bs, h => by cases h with | cons h1 h2 => cases h1; rw [bls_of bs h2]; rfl
theorem strs_of : ∀ {G : Hp} {xs : List V} (zs : List Str), DRs K G xs (zs.map Da.str) → xs = zs.map V.str
  | _, _, [], h => by cases h; rfl
  | _, _, b :: bs, h => by cases h with | cons h1 h2 => cases h1; rw [strs_of bs h2]; rfl
/-- all(list of truth values) -/
theorem ed_all {bs : List Bool} (h : Evd K te σ G (.lst (bs.map Da.bl))) : Evd K (tCB (rAll K) (tCons te tNil)) σ G (.bl (bs.all id)) := fun H e Q q => h H e _ fun v G1 H1 n1 dv => by
  cases dv with
  | lst h1 h2 => exact ⟨_, bs, rfl, by rw [← bls_of bs h2]; exact SqL.of (n1.b _ _ h1), q _ G1 H1 n1 (.bl _)⟩
/-- a text in a list of texts -/
theorem inV_strs (w : Str) : ∀ zs : List Str, inV (.str w) (zs.map V.str) = zs.contains w
  | [] => rfl
  | z :: zs => by
    have ih := inV_strs w zs
    unfold inV at ih ⊢
    rw [List.map_cons, List.any_cons, ih, List.contains_cons]
    congr 1
    show (z == w) = (w == z)
    exact Bool.beq_comm
theorem flat_strs' (zs : List Str) : (zs.map V.str).all flatV = true := by
  rw [List.all_map]
  exact List.all_eq_true.mpr fun _ _ => rfl
theorem ed_inL {w : Str} {zs : List Str} (ha : Evd K ta σ G (.str w)) (hb : Evd K tb σ G (.lst (zs.map Da.str))) : Evd K (tOp (rIn K false) ta tb) σ G (.bl (zs.contains w)) :=
  ed_two ha (fun _ s => hb.up s) fun v u G' H' _ e dv du Q q => by
    cases dv
    cases du with
    | lst h1 h2 =>
      have e1 := strs_of zs h2
      subst e1
      exact ⟨_, _, rfl, .inl (SqL.of (e _ _ h1)), rfl, flat_strs' zs, by rw [if_neg Bool.false_ne_true, inV_strs]; exact q _ G' H' (Nw.refl e) (.bl _)⟩
theorem ed_notInL {w : Str} {zs : List Str} (ha : Evd K ta σ G (.str w)) (hb : Evd K tb σ G (.lst (zs.map Da.str))) : Evd K (tOp (rIn K true) ta tb) σ G (.bl (!zs.contains w)) :=
  ed_two ha (fun _ s => hb.up s) fun v u G' H' _ e dv du Q q => by
    cases dv
    cases du with
    | lst h1 h2 =>
      have e1 := strs_of zs h2
      subst e1
      exact ⟨_, _, rfl, .inl (SqL.of (e _ _ h1)), rfl, flat_strs' zs, by rw [if_pos rfl, inV_strs]; exact q _ G' H' (Nw.refl e) (.bl _)⟩
/-- a.split(b) -/
theorem ed_split (ha : Evd K ta σ G (.str z)) (hb : Evd K tb σ G (.str y)) (hy : (y.length == 0) = false) (hz : z.length ≤ 900) :
    Evd K (tM1 (fun x xs H Q => ∃ a b, x = .str a ∧ xs = [.str b] ∧ (b.length == 0) = false ∧ a.length + 2 ≤ sizeLine ∧ rNewStrs (Txt.split a b) H Q) ta tb) σ G (.lst ((Txt.split z y).map Da.str)) := fun H e Q q => ha H e _ fun v G1 H1 n1 dv => by
  cases dv
  refine ⟨⟨z, rfl⟩, hb.up n1.a H1 n1.b _ fun u G2 H2 n2 du => ?_⟩
  cases du
  refine ⟨z, y, rfl, rfl, hy, Nat.le_trans (show z.length + 2 ≤ 1000 by omega) (by decide), fun p hp => ?_⟩
  have n3 := Nw.new (o := .lst ((Txt.split z y).map V.str)) n2.b hp
  exact q (.ref p) _ _ ((n1.trans n2).trans n3) (.lst upd_same (drs_map (fun c => .str c) _))
/-- str(int) -/
def rStrI : List V → Hp → VK → Prop := fun xs H Q => ∃ i, xs = [.int i] ∧ i.natAbs.log2 < 1920 ∧ Q (.str (toString i)) H
theorem ed_strI (h : Evd K te σ G (.int i)) (hi : i.natAbs.log2 < 1920) : Evd K (tCB rStrI (tCons te tNil)) σ G (.str (toString i)) := fun H e Q q => h H e _ fun v G1 H1 n1 dv => by
  cases dv
  exact ⟨i, rfl, hi, q _ G1 H1 n1 (.str _)⟩
/-- text + text -/
def rCatS1 : R2 := fun x y H Q => ∃ i j, x = .str i ∧ y = .str j ∧ i.length + j.length ≤ sizeLine ∧ Q (.str (i ++ j)) H
theorem ed_catS (ha : Evd K ta σ G (.str z)) (hb : Evd K tb σ G (.str y)) (hz : z.length + y.length ≤ 1000) : Evd K (tOp rCatS1 ta tb) σ G (.str (z ++ y)) :=
  ed_two ha (fun _ s => hb.up s) fun v w G' H' _ e dv dw Q q => by
    cases dv; cases dw
    exact ⟨z, y, rfl, rfl, sizeK hz, q _ G' H' (Nw.refl e) (.str _)⟩
/-- text[a:b] -/
theorem ed_slS {tl th : TO} {lo hi : Option Int} (h : Evd K te σ G (.str z)) (hz : z.length ≤ 1000) (hl : ∀ H Q, Q lo H → tl σ H Q) (hh : ∀ H Q, Q hi H → th σ H Q) : Evd K (tSl C8.rSlX te tl th) σ G (.str (Txt.slice z lo hi)) := fun H e Q q => h H e _ fun v G1 H1 n1 dv => by
  cases dv
  refine hl _ _ (hh _ _ ?_)
  unfold C8.rSlX
  exact ⟨z, rfl, sizeK hz, q _ G1 H1 n1 (.str _)⟩
end
end GL

set_option Elab.async false
set_option linter.all false
set_option autoImplicit false
set_option maxRecDepth 100000
set_option maxHeartbeats 2000000
namespace GL
open PySem PySem.Spec PyProof.Rows L2
/-- a def that may be called by its name, wherever there is room -/
structure CalO (P : Program) (w : World) (K : PySem.W.Frag) (mg : Str → Option Value) (base : Heap) (k : Nat) (x : Str) (ps : List Str) (sp : Sp) : Prop where
  ex : ∃ f fd, FnOk P w K mg base CX0 k f fd ps sp ∧ mg x = some (.ref f) ∧ PySem.W.keepIn K (.ref f) = true ∧ L2.Binds K fd ps []
section
variable {X : Cx} {k : Nat} {x : Str} {ps : List Str} {sp : Sp} {p pos : Pos} {e : Expr} {es : List Expr} {t : TA} {te ta tb : TE} {z : Str} {i : Int}
theorem pe_calO (c : CalO X.prog X.w X.K X.mg X.base k x ps sp) (hr : Room k X.A) (hg : Gl X x) (ha : PA X (e :: es) t) (hdb : (x == ("__debug__" : Str)) = false := by decide)
    (he : starEach (e :: es) X.env = (false, eval e X.env) :: starEach es X.env := by rfl) (hpl : (backTo pos (starEach es X.env)).any (·.1) = false := by rfl) : PE X (.Call (.Name x p) (e :: es) [] pos) (tCall sp [] E0 t) := by
  obtain ⟨f, fd, F, hm, hk, hb⟩ := c.ex
  exact pe_call F hr hg hm hk hb .nil pass0 ha hdb he hpl
/-- a constant of the program's top -/
theorem pe_kS (h : ∃ t, X.mg x = some (.str z t)) (hg : Gl X x) (hd : (x == ("__debug__" : Str)) = false := by decide) : PE X (.Name x pos) (tC (.str z)) := by
  obtain ⟨t, h⟩ := h
  exact pe_glob hg h ⟨t, rfl⟩ hd
theorem pe_kI (h : ∃ t, X.mg x = some (.int i t)) (hg : Gl X x) (hd : (x == ("__debug__" : Str)) = false := by decide) : PE X (.Name x pos) (tC (.int i)) := by
  obtain ⟨t, h⟩ := h
  exact pe_glob hg h ⟨t, rfl⟩ hd
end
section
variable {K : PySem.W.Frag} {σ : L2.St} {G : Hp} {te ta tb : TE} {d : Da} {ds : List Da} {i j : Int} {b : Bool} {C : Addr} {f : Str}
/-- len of a list of data -/
theorem ed_lenL (h : Evd K te σ G (.lst ds)) : Evd K (tCB (fun xs H Q => ∃ p ys, xs = [.ref p] ∧ (SqL K H p ys ∨ SqT K H p ys) ∧ Q (.int ys.length) H) (tCons te tNil)) σ G (.int ds.length) := fun H e Q q => h H e _ fun v G1 H1 n1 dv => by
  cases dv with
  | lst h1 h2 => exact ⟨_, _, rfl, .inl (SqL.of (n1.b _ _ h1)), q _ G1 H1 n1 (by rw [h2.len]; exact .int _)⟩
theorem ed_neI (ha : Evd K ta σ G (.int i)) (hb : Evd K tb σ G (.int j)) (hz : (!decide (i = j)) = b) : Evd K (tOp rNe ta tb) σ G (.bl b) := ed_two ha (fun _ s => hb.up s) fun v w G' H' _ e dv dw Q k => by
  cases dv; cases dw
  have z : (!decide (V.int i = V.int j)) = b := by rw [← hz]; simp
  exact ⟨rfl, by rw [z]; exact k _ G' H' (Nw.refl e) (.bl b)⟩
theorem ed_eqI (ha : Evd K ta σ G (.int i)) (hb : Evd K tb σ G (.int j)) (hz : decide (i = j) = b) : Evd K (tOp rEq ta tb) σ G (.bl b) := ed_two ha (fun _ s => hb.up s) fun v w G' H' _ e dv dw Q k => by
  cases dv; cases dw
  have z : decide (V.int i = V.int j) = b := by rw [← hz]; simp
  exact ⟨rfl, by rw [z]; exact k _ G' H' (Nw.refl e) (.bl b)⟩
theorem ed_gtI (ha : Evd K ta σ G (.int i)) (hb : Evd K tb σ G (.int j)) (hz : decide (j < i) = b) : Evd K (tOp (rI0 fun i j => .bl (decide (j < i))) ta tb) σ G (.bl b) := ed_two ha (fun _ s => hb.up s) fun v w G' H' _ e dv dw Q k => by
  cases dv; cases dw
  subst hz
  exact ⟨i, j, rfl, rfl, k _ G' H' (Nw.refl e) (.bl _)⟩
theorem ed_addI (ha : Evd K ta σ G (.int i)) (hb : Evd K tb σ G (.int j)) : Evd K (tOp (rI0 fun i j => .int (i + j)) ta tb) σ G (.int (i + j)) := ed_two ha (fun _ s => hb.up s) fun v w G' H' _ e dv dw Q k => by
  cases dv; cases dw
  exact ⟨i, j, rfl, rfl, k _ G' H' (Nw.refl e) (.int _)⟩
/-- a constant of a class -/
theorem ed_cval {mc u : Value} {v : V} (h : Evd K te σ G (.obj C)) (c : ClX.CRead K C mc) (k : ClX.CVal K C mc f v u) (hd : ∀ G', DR K G' v d) : Evd K (ClX.tCVal K te f) σ G d := fun H e Q q => h H e _ fun w G1 H1 n1 dw => by
  cases dw
  exact ⟨C, mc, v, u, rfl, c, k, q v G1 H1 n1 (hd G1)⟩
end
end GL

set_option Elab.async false
set_option linter.all false
set_option autoImplicit false
set_option maxRecDepth 100000
set_option maxHeartbeats 2000000
namespace GL
open PySem PySem.Spec PyProof.Rows L2
/-! a, b = a list -/
section
variable {prog : Program} {w : World} {A : Around} {E : Value → Shared → Prop} {s : Shared}
theorem draw_lst {it l : Addr} {items : Array Value} (apart : l ≠ it) : ∀ (n i : Nat) (s : Shared) (Q : List Value → Shared → Prop), s.heap.IsListIter it l i → s.heap.IsList l items → i + n ≤ items.size →
    (∀ g, g.IsListIter it l (i + n) → Heap.SameBut it s.heap g → Q ((items.toList.drop i).take n) { s with heap := g }) → wpAny (model prog w) A (draw (.ref it) n) Q E s
  | 0, i, s, Q, st, _, _, q => by
    show wpAny _ _ (pure []) Q E s
    exact wpAny_pure (by simpa using q s.heap st (Heap.SameBut.refl ..))
  | n + 1, i, s, Q, st, il, le, q => by
    have lt : i < items.size := by omega
    show wpAny _ _ (pyNext (.ref it) >>= _) Q E s
    refine wpAny_bind (wpAny_pyNext_list_item st il (x := items[i]) (by simp [lt]) fun g1 st1 same1 => ?_)
    refine wpAny_bind (wpAny_holding (draw_lst apart n (i + 1) _ _ st1 (il.extBut same1.extBut apart) (by omega) fun g2 st2 same2 => wpAny_pure ?_))
    have cut : items.toList.drop i = items[i] :: items.toList.drop (i + 1) := by simp [List.drop_eq_getElem_cons, lt]
    have z := q g2 (by rw [show i + (n + 1) = i + 1 + n by omega]; exact st2) (same1.trans same2)
    rw [cut, List.take_succ_cons] at z
    exact z
theorem unpack_lst {l : Addr} {items : Array Value} {Q : List Value → Shared → Prop} (calm : A.handled = none) (il : s.heap.IsList l items) (q : ∀ g, Heap.ExtBut s.heap.objs.size s.heap g → Q items.toList { s with heap := g }) :
    wpAny (model prog w) A (unpackItems (.ref l) items.size none) Q E s := by
  have apart : l ≠ s.heap.objs.size := by obtain ⟨o, ho, _⟩ := il; exact Nat.ne_of_lt (Heap.lt_size ho)
  unfold unpackItems
  refine wpAny_bind ?_
  unfold notIterableAtAll
  refine wpAny_bind (wpAny_specialOf il.typeIs slot_list_iter.lookup (wpAny_pure ?_))
  simp only [Bool.false_eq_true, if_false]
  refine wpAny_bind (wpAny_holding (wpAny_pyIter_list il ?_))
  refine wpAny_bind (wpAny_holding (draw_lst apart items.size 0 _ _ ⟨_, Heap.get?_push_size _ rfl, rfl, rfl⟩ (il.push _) (by omega) fun g1 st1 same1 => ?_))
  have whole : List.take items.size (List.drop 0 items.toList) = items.toList := by
    rw [List.drop_zero]; exact List.take_of_length_le (by simp)
  rw [whole, if_neg (by simp)]
  have il1 : g1.IsList l items := (il.push _).extBut same1.extBut apart
  refine wpAny_bind (wpAny_holding (wpAny_pyNext_list_end calm st1 il1 (by simp) fun g2 ext2 => ?_))
  simp only [Option.isSome_none, Bool.false_eq_true, if_false]
  exact wpAny_pure (q g2 fun b o hb e => ext2 b o hb (same1.extBut b o hb (Heap.get?_push_of_some _ e)))
end
def gTupL (K : PySem.W.Frag) (n : Nat) (t : TGs) : TG := fun v σ H Q => ∃ a xs, v = .ref a ∧ SqL K H a xs ∧ xs.length = n ∧ t xs σ H Q
section
variable {X : Cx} {pos : Pos}
theorem pg_tupL {es : List Expr} {k : Nat} {t : TGs} {n : Nat} (calm : X.calm = true) (h : PGs X es t) (hn : (assignEach es X.env).length = n := by rfl) (hst : (assignEach es X.env).findIdx? (·.1) = none := by rfl) : PG X (.Tuple es k pos) (gTupL X.K n t) := by
  refine ⟨fun pins s σ H v u Q I r ⟨a, xs, ev, hq, hl, z⟩ => ?_⟩
  subst ev
  cases r
  obtain ⟨its, rv, pl, hz⟩ := I.list hq
  rw [assign_Tuple]
  refine wpAny_bind (wpAny_standAt ?_)
  unfold unpack
  have hsz : (assignEach es X.env).length = its.toArray.size := by rw [hn, ← hl, rv.length, List.size_toArray]
  rw [hsz, hst]
  refine wpAny_bind (wpAny_holding (unpack_lst (I.ok.hd calm) pl.isList fun g ext => ?_))
  have I1 : Inv X pins σ H { s with heap := g } := I.kept (t' := s.toks) fun b o e => ext b o (Nat.ne_of_lt (Heap.lt_size e)) e
  exact h.run pins _ σ H xs _ Q I1 (by simpa using rv) z
end
/-! c(e, ..), c a name that holds the class at C -/
section
variable {X : Cx} {CX : CXT} {k n : Nat} {f C : Addr} {fd : FuncData} {ps ks : List Str} {sp : Sp} {E : XK} {x : Str} {p pos : Pos} {e : Expr} {es : List Expr} {t : TA} {g : List Value → List Value → List Value} {gV : List V → List V → List V}
theorem pe_makeV {i : Nat} (M : Mk X.K C f) (F : FnOk X.prog X.w X.K X.mg X.base CX k f fd ps sp) (hr : Room (k + 1) X.A) (hi : X.N[i]? = some x) (hv : Vis X.env.scope x) (hb : KBn X.K fd ps (n + 1) [] g gV) (hx : Passes CX X E) (ha : PA X (e :: es) t)
    (hd : (x == ("__debug__" : Str)) = false := by decide) (hcd : (x == ("__classdict__" : Str)) = false := by decide) (he : starEach (e :: es) X.env = (false, eval e X.env) :: starEach es X.env := by rfl) (hpl : (backTo pos (starEach es X.env)).any (·.1) = false := by rfl) :
    PE X (.Call (.Name x p) (e :: es) [] pos) (fun σ H Q => σ[i]? = some (some (.ref C)) ∧ tMakeN C n 0 sp gV E t tNil σ H Q) := by
  refine ⟨fun pins s σ H Q I ⟨h0, h⟩ => ?_⟩
  refine wpAny_Call_Name_kw (thn ((pe_var (pos := p) (i := i) hi hv hd hcd).run pins s σ H (fun v H1 => v = .ref C ∧ H1 = H) I ⟨.ref C, h0, rfl, rfl⟩) fun u s1 ⟨v, H1, I1, r1, ev, eH⟩ => ?_)
  subst ev eH
  obtain rfl : u = Value.ref C := r1
  refine PySem.W.callWith_K (h₀ := X.base) I1.ok.mod.kin M.kp (thn (ha.run pos pins s1 σ _ _ I1 h) fun us s2 ⟨vs, H2, I2, r, l1, q⟩ => ⟨I2.kIn, ?_⟩) he hpl
  obtain ⟨l2, q⟩ := q
  exact run_makeN (us := us) (ws := []) (zs := []) M F hr hb hx I2 r .nil l1 rfl q
end
/-! instances that never change, as data -/
def PiN (K : PySem.W.Frag) (C : Addr) (n : Nat) (R : List Da → List Str → List Da → Prop) : Sp := fun vs H Q _ => ∃ G a dx ws ds ns es, vs = .ref a :: ws ∧ ds.length = n ∧ Same G H ∧ G a = none ∧ H a = some (.ins C dx []) ∧ DRs K G ws ds ∧ R ds ns es ∧
  ∀ G' H', (∀ b o, b ≠ a → H b = some o → H' b = some o) → Same G G' → Same G' H' → (∀ b o, b ≠ a → H b = some o → G b = none → G' b = none) → DR K G' (.ref a) (.ins C ns es) → Q .non H'
theorem PiN.len {K : PySem.W.Frag} {C : Addr} {n : Nat} {R : List Da → List Str → List Da → Prop} (vs : List V) (H : Hp) (Q : VK) (E : XK) (h : PiN K C n R vs H Q E) : vs.length = n + 1 := by
  obtain ⟨_, a, dx, ws, ds, ns, es, rfl, hl, _, _, _, r, _⟩ := h
  rw [List.length_cons, r.len, hl]
section
variable {K : PySem.W.Frag} {σ : L2.St} {G : Hp} {tA tk te : TA} {C : Addr} {ds zs es : List Da} {ns : List Str} {E : XK}
theorem x_mkN {n m k : Nat} {R : List Da → List Str → List Da → Prop} {gV : List V → List V → List V} (h : Evs K tA σ G ds) (hk : Evs K tk σ G zs) (hm : ds.length = m) (hz : zs.length = k) (order : List Da) (ho : order.length = n)
    (hg : ∀ (a : Addr) (H' : Hp) (vs ws : List V), DRs K H' vs ds → DRs K H' ws zs → ∃ us, gV (.ref a :: vs) ws = .ref a :: us ∧ DRs K H' us order) (hR : R order ns es) : Evd K (tMakeN C m k (PiN K C n R) gV E tA tk) σ G (.ins C ns es) := fun H e Q q => h H e _ fun vs G1 H1 n1 dvs => hk.up n1.a H1 n1.b _ fun ws G2 H2 n2 dws =>
  ⟨by rw [dvs.len]; exact hm, by rw [dws.len]; exact hz, fun a dx ha hdx ne => by
    obtain ⟨us, e4, r⟩ := hg a G2 vs ws (dvs.up n2.a) dws
    rw [e4]
    have ga : G2 a = none := n2.b.free ha
    have gd : G2 dx = none := n2.b.free hdx
    have up : ∀ {b : Addr} {o : HO}, H2 b = some o → upd (upd H2 dx (.own a)) a (.ins C dx []) b = some o := fun {b o} z => by rw [upd_ne (ne_of_none z ha), upd_ne (ne_of_none z hdx)]; exact z
    refine ⟨G2, a, dx, us, order, ns, es, rfl, ho, fun b o z => up (n2.b _ _ z), ga, upd_same, r, hR, fun G' H' k1 k2 k3 k4 dd => ⟨rfl, q _ G' H' ((n1.trans n2).trans ⟨fun b o z => k1 b o (ne_of_none z ha) (up z), k2, k3, fun b o z w => k4 b o (ne_of_none z ha) (up z) w⟩) dd⟩⟩⟩
end
end GL

set_option Elab.async false
set_option linter.all false
set_option autoImplicit false
set_option maxRecDepth 100000
set_option maxHeartbeats 2000000
namespace GL
open PySem PySem.Spec PyProof.Rows L2
/-! str(x), x == y, x != y of an instance whose class has its own __str__, __eq__ -/
section
variable {X : Cx} {n : Nat} {C f : Addr} {fd : FuncData} {ps : List Str} {sp : Sp}
theorem run_at {A : Around} {pins : List (Addr × Obj)} {s : Shared} {σ : L2.St} {H : Hp} {us : List Value} {vs : List V} {Q : VK} (F : FnOk X.prog X.w X.K X.mg X.base CX0 n f fd ps sp) (hr : Room n A) (fr : A.frames = X.A.frames) (hb : Binds X.K fd ps []) (I : Inv X pins σ H s) (r : Vals vs us) (h : sp vs H Q E0)
    (E : Value → Shared → Prop) : wpAny (model X.prog X.w) A (call (.ref f) us) (EP X pins σ Q) E s := by
  have e := I.env0
  have e0 : Env0 X.prog X.w X.K X.mg X.base A X.stack s H := ⟨by rw [fr]; exact e.frames, e.mod, e.bs, e.bsz, e.funs, e.frf, e.hok, e.bare⟩
  have hl : us.length = ps.length := r.length.symm.trans (F.len _ _ _ _ h)
  have bd := hb s us I.kIn (by simpa using hl)
  rw [List.append_nil] at bd
  refine wpAny_call (codeAny_mono (F.run A X.stack s H ⟨us, []⟩ us vs Q E0 hr e0 bd r h) fun q s' z => ?_)
  cases q with
  | error er => exact False.elim z
  | ok fl => cases fl with
    | ret u => exact I.after z
    | next | brk | cont => exact z
def rStrO (C : Addr) (sp : Sp) : List V → Hp → VK → Prop := fun xs H Q => ∃ a dx fs, xs = [.ref a] ∧ H a = some (.ins C dx fs) ∧ sp [.ref a] H (fun v H' => (∃ z, v = .str z) ∧ Q v H') E0
theorem call_strO (F : FnOk X.prog X.w X.K X.mg X.base CX0 n f fd ps sp) (hs : PySem.W.findIn X.K (.ref C) "__str__" = some (some (.ref f))) (hf : PySem.W.isFn X.K (.ref f) = true) (hb : Binds X.K fd ps []) (hr : Room (n + 2) X.A) : CallR X (.type "str") (rStrO C sp) := by
  intro pins s σ H xs us Q I r h
  obtain ⟨a, dx, fs, rfl, ha, h⟩ := h
  have r0 := r
  cases r with
  | cons r1 r2 =>
    cases r2
    cases r1
    obtain ⟨mA, J, _⟩ := ins_get I.hok ha
    obtain ⟨od, J, _⟩ := J.look
    have hr2 : Room n X.A.in1.in1 := hr.in1.in1
    refine PySem.W.kso_call hr2.units0 I.kIn J hs hf (wpAny_mono (run_at (A := X.A.in1.in1) F hr2 rfl hb I r0 h X.xe) (fun u s' z => ?_) fun _ _ e => e)
    obtain ⟨v, H', I', rv, ⟨z, rfl⟩, q⟩ := z
    obtain ⟨t, rfl⟩ := rv
    exact ⟨.str z, H', I', ⟨t, rfl⟩, q⟩
/-- the class at C has its own __eq__ at f, and the built-in __ne__ -/
structure EqK (K : PySem.W.Frag) (C f : Addr) : Prop where
  cls : ∃ nm q N bs hd sn sub ab col dd k0 k1 k2 k3 k5 nid, K.lookup C = some (excClassObj nm q C N bs [.type "object"] hd sn sub ab col dd k0 k1 k2 k3 k5 nid) ∧ PySem.W.nsOkIn K N = true ∧ PySem.W.nsIn K N "__eq__" = some (some (.ref f)) ∧ PySem.W.nsIn K N "__ne__" = some none
  fn : PySem.W.isFn K (.ref f) = true
theorem ns_at {K : PySem.W.Frag} {h : Heap} {N : Addr} {m : Str → Option Value} {x : Str} {v : Value} (X : K.In h) (G : h.Ns N m) (e : PySem.W.nsIn K N x = some (some v)) : m x = some v := by
  obtain ⟨o, es, ep, ho, hd, _, hf⟩ := G
  unfold PySem.W.nsIn at e
  split at e
  · next q =>
    have z := X _ _ q
    rw [ho] at z
    cases z
    cases hd
    split at e
    · next he =>
      cases e
      rw [← hf]
      unfold nsFind findBy
      rw [← Array.find?_toList, he]
      rfl
    · split at e <;> cases e
  · cases e
def rNeO (C : Addr) (sp : Sp) : R2 := fun x y H Q => ∃ a dx fs b dy gs, x = .ref a ∧ y = .ref b ∧ H a = some (.ins C dx fs) ∧ H b = some (.ins C dy gs) ∧ sp [.ref a, .ref b] H (fun v H' => ∃ k, v = .bl k ∧ Q (.bl (!k)) H') E0
theorem op_neO (F : FnOk X.prog X.w X.K X.mg X.base CX0 n f fd ps sp) (k : EqK X.K C f) (hb : Binds X.K fd ps []) (hr : Room (n + 1) X.A) : OpR X (compareOp .NotEq) (rNeO C sp) := by
  intro pins s σ H x y v u Q I rx ry h
  obtain ⟨a, dx, fs, b, dy, gs, rfl, rfl, ha, hb', h⟩ := h
  cases rx
  cases ry
  obtain ⟨mA, J, _⟩ := ins_get I.hok ha
  obtain ⟨mB, J', _⟩ := ins_get I.hok hb'
  obtain ⟨od, J, _⟩ := J.look
  obtain ⟨od', J', _⟩ := J'.look
  obtain ⟨nm, q, N, bs, hd, sn, sub, ab, col, dd, k0, k1, k2, k3, k5, nid, lC, nsO, eqN, neN⟩ := k.cls
  have KI := I.kIn
  have hr1 : Room n X.A.in1 := hr.in1
  have ns : s.heap.Ns N (s.heap.nsMap N) := .of_isNs (PySem.W.isNs_of_in KI nsO)
  have fnO := beq_iff_eq.mp k.fn
  obtain ⟨of, lf, cf⟩ : ∃ of, X.K.lookup f = some of ∧ of.cls = .type "function" := by
    have z : (X.K.lookup f).map (·.cls) = some (.type "function") := fnO
    obtain ⟨of, z1, z2⟩ := Option.map_eq_some_iff.mp z
    exact ⟨of, z1, z2⟩
  obtain ⟨hp, g, d, t, os⟩ := s
  obtain ⟨y0, hy0⟩ : ∃ y0, typeLookup (.type "object") "__eq__" = pure y0 := ⟨_, PySem.F.cmp_object.eq.lookup⟩
  have O : hp.OwnEqNoNe a C f "object" [.type "object"] := ⟨_, of, nm, q, N, bs, hd, sn, sub, ab, col, dd, k0, k1, k2, k3, k5, nid, hp.nsMap N, y0, J.1, J.cls, KI _ _ lC, ns, ns_at KI ns eqN, KI _ _ lf, cf, PySem.F.cmp_object.mro, hy0, PySem.W.ns_none_of KI ns neN⟩
  refine compareOp_ne_ownEq PySem.F.cmp_object O J'.1 J'.cls (Nat.lt_of_le_of_lt (Nat.add_le_add_left (by decide : 1 ≤ 64) _) hr.units) (wpAny_mono (run_at (A := X.A.in1) (us := [.ref a, .ref b]) (vs := [.ref a, .ref b]) F hr1 rfl hb I (.cons rfl (.cons rfl .nil)) h X.xe) (fun r s' z => ?_) fun _ _ e => e)
  obtain ⟨v, H', I', rv, kk, rfl, qq⟩ := z
  cases rv
  exact ⟨kk, rfl, .bl (!kk), H', I', rfl, qq⟩
end
end GL

set_option Elab.async false
set_option linter.all false
set_option autoImplicit false
set_option maxRecDepth 100000
set_option maxHeartbeats 2000000
namespace GL
open PySem PySem.Spec PyProof.Rows L2
/-! C.m(k = v, ..), m a classmethod of the class at C -/
def tCMethK (C : Addr) (m : Nat) (sp : Sp) (gV : List V → List V → List V) (E : XK) (ta : TE) (tk : TA) : TE := fun σ H Q => ta σ H fun x H1 => x = .ref C ∧ tk σ H1 fun zs H2 => zs.length = m ∧ sp (gV [.ref C] zs) H2 Q E
section
variable {X : Cx} {CX : CXT} {k : Nat} {C p g : Addr} {fd : FuncData} {ps ks : List Str} {mc : Value} {sp : Sp} {E : XK} {o : Expr} {kws : List Keyword} {m : Str} {pos apos : Pos} {ta : TE} {tk : TA} {pl : Sem Bool} {gv : List Value → List Value → List Value} {gV : List V → List V → List V}
theorem pe_cmethK0 (he : PE X o ta) (r : ClX.CRead X.K C mc) (c : ClX.CMet X.K C mc m p g) (F : FnOk X.prog X.w X.K X.mg X.base CX k g fd ps sp) (hb : KBn X.K fd ps 1 ks gv gV) (hr : Room k X.A) (hx : Passes CX X E) (hkw : PK X kws tk)
    (hall : (backToKw pos (keywordEach kws X.env)).all (·.1.isSome) = true := by rfl) (hks : (backToKw pos (keywordEach kws X.env)).filterMap (·.1) = ks := by rfl) (hpl : ((backTo pos (starEach [] X.env)).any (·.1) || (backToKw pos (keywordEach kws X.env)).any (·.1.isNone)) = false := by rfl)
    (ht : eval (.Call (.Attribute o m apos) [] kws pos) X.env = (do
      let ov ← eval o X.env
      standAt apos.atName
      let (f, first) ← holding [ov] (getMethod ov m pl)
      callWith pos f first (backTo pos (starEach [] X.env)) (backToKw pos (keywordEach kws X.env))) := by rfl) :
    PE X (.Call (.Attribute o m apos) [] kws pos) (tCMethK C ks.length sp gV E ta tk) := by
  refine ⟨fun pins s σ H Q I h => ?_⟩
  refine PySem.W.methodCall_KW (pl := pl) (thn (he.run pins s σ H _ I h) fun u s1 ⟨x, H1, I1, rx, ex, q⟩ => ?_) ht
  subst ex
  obtain rfl : u = Value.ref C := rx
  refine ClX.getmethcm_ok I1 r c fun s2 I2 => ?_
  refine PySem.W.callWith_of (P := PySem.W.MethP X.K s1.heap.objs.size g (.ref C)) hpl (PySem.W.keeps_M c.fi) ?_
  refine evalArgs_kw2_nil hall ?_
  refine thn (hkw.run pos _ s2 σ H1 _ I2 q) fun ws s3 ⟨zs, H2, I3, rz, l2, q2⟩ => ⟨⟨ClX.pin_at I3, I3.kIn⟩, ?_⟩
  rw [hks]
  have l3 : ws.length = ks.length := rz.length.symm.trans l2
  have rel := hb.rel (vs := [.ref C]) (us := [.ref C]) (.cons rfl .nil) rz
  have z : wpAny (model X.prog X.w) X.A (call (.ref s1.heap.objs.size) ([] ++ []) (ks.zip ws)) (EP X ((s1.heap.objs.size, PySem.W.methodObj (.ref g) (.ref C)) :: pins) σ Q) X.xe s3 := by
    refine wpAny_call (PySem.W.method_call (ClX.pin_at I3) (codeAny_mono (F.run X.A X.stack s3 H2 ⟨[.ref C], ks.zip ws⟩ (gv [.ref C] ws) (gV [.ref C] zs) Q E hr I3.env0 (hb.to s3 [.ref C] ws I3.kIn rfl l3) rel q2) fun q s' z => ?_))
    cases q with
    | error er => exact hx _ σ H2 s3 er s' I3 z
    | ok fl => cases fl with
      | ret u => exact I3.after z
      | next | brk | cont => exact z
  exact thn z fun _ _ y => ClX.unpinE y
end
end GL

set_option Elab.async false
set_option linter.all false
set_option autoImplicit false
set_option maxRecDepth 100000
set_option maxHeartbeats 2000000
namespace GL
open PySem PySem.Spec PyProof.Rows L2
/-- what isinstance asks of the class at C of an instance -/
structure InC (K : PySem.W.Frag) (C : Addr) : Prop where
  cl : Cls K C
  ha : PySem.W.findIn K (.ref C) "__class__" = some (some (.builtin "object.__class__"))
  hn : PySem.W.specialIn K (.builtin "object.__class__") "__get__" = some (some (.builtin "getset_descriptor.__get__"))
  ht : PySem.W.takesIn K (.builtin "object.__class__") = some true
  hm : PySem.W.mroIn K C (.type "object") = some true
section
variable {K : PySem.W.Frag} {σ : L2.St} {G : Hp} {te ta tb : TE} {d c : Da} {ds : List Da} {ns : List Str} {C : Addr} {f : Str} {b : Bool} {cv : Value}
/-- e.f of an instance -/
theorem ed_fld (h : Evd K te σ G (.ins C ns ds)) (cl : Cls K C) (na : NoAttr K C f) (i : Nat) (hd : ds[i]? = some d) (hl : ∀ vs : List V, ns.length = vs.length → List.lookup f (ns.zip vs) = vs[i]?) : Evd K (tFld K te f) σ G d := fun H e Q q => h H e _ fun v G1 H1 n1 dv => by
  cases dv with
  | @ins a _ dx _ vs _ h1 h2 h3 =>
    obtain ⟨w, e1, e2⟩ := h3.getD hd
    exact ⟨a, C, dx, _, w, rfl, n1.b _ _ h1, cl, na, (hl vs h2).trans e1, q w G1 H1 n1 e2⟩
/-- isinstance(e, c) of an instance -/
theorem ed_isC (h : Evd K te σ G (.ins C ns ds)) (hc : Evd K ta σ G c) (kc : ∀ H' v, DR K H' v c → ClsV v cv) (T : InC K C) (hk : PySem.W.kitOne K (.ref C) cv = some b) : Evd K (tCB (rIsi K) (tCons te (tCons ta tNil))) σ G (.bl b) := fun H e Q q => h H e _ fun v G1 H1 n1 dv => hc.up n1.a H1 n1.b _ fun w G2 H2 n2 dw => by
  have dv := dv.up n2.a
  cases dv with
  | @ins a _ dx _ vs _ h1 h2 h3 => exact ⟨.ref a, w, .ref C, cv, b, rfl, kc G2 w dw, .base (.ins (n2.b _ _ h1) T.cl T.ha T.hn T.ht T.hm), hk, q _ G2 H2 (n1.trans n2) (.bl b)⟩
/-- the parts of an f-string -/
inductive EvJ (K : PySem.W.Frag) (σ : L2.St) (G : Hp) : List TE → List Str → Prop where
  | nil : EvJ K σ G [] []
  | cons {t : TE} {y : Str} {ts : List TE} {ys : List Str} (h : Evd K t σ G (.str y)) (r : EvJ K σ G ts ys) : EvJ K σ G (t :: ts) (y :: ys)
theorem str_len (x y : Str) : (x ++ y).length = x.length + y.length := Str.length_append x y
theorem js_run : ∀ {ts : List TE} {ys : List Str}, EvJ K σ G ts ys → ∀ (acc : Str), acc.length + (ys.map (·.length)).sum ≤ 1000 → ∀ (G1 H1 : Hp), Same G G1 → Same G1 H1 → ∀ (R : Str → Hp → Prop), (∀ G2 H2, Nw G1 H1 G2 H2 → R (ys.foldl (· ++ ·) acc) H2) → tJs ts acc σ H1 R
  | _, _, .nil, acc, hz, G1, H1, s0, s, R, q => q G1 H1 (Nw.refl s)
  | _, _, .cons (y := y) (ys := ys) h r, acc, hz, G1, H1, s0, s, R, q => by
    rw [List.map_cons, List.sum_cons] at hz
    refine h.up s0 H1 s _ fun v G2 H2 n dv => ?_
    cases dv
    refine ⟨y, rfl, sizeK (by rw [str_len]; omega), js_run r (acc ++ y) (by rw [str_len]; omega) G2 H2 (s0.trans n.a) n.b R fun G3 H3 n3 => q G3 H3 (n.trans n3)⟩
theorem ed_js {ts : List TE} {ys : List Str} (h : EvJ K σ G ts ys) (hz : (ys.map (·.length)).sum ≤ 1000) : Evd K (fun σ H Q => tJs ts Str.empty σ H fun out H1 => Q (.str out) H1) σ G (.str (ys.foldl (· ++ ·) Str.empty)) := fun H e Q q =>
  js_run h Str.empty (by have : Str.empty.length = 0 := rfl; omega) G H (Same.refl _) e _ fun G2 H2 n => q _ G2 H2 n (.str _)
theorem ed_fmtS {y : Str} (h : Evd K te σ G (.str y)) (hz : y.length ≤ 1000) : Evd K (tFmt te) σ G (.str y) := fun H e Q q => h H e _ fun v G1 H1 n1 dv => by
  cases dv
  exact .inl ⟨y, rfl, sizeK hz, q _ G1 H1 n1 (.str y)⟩
theorem ed_fmtI {i : Int} (h : Evd K te σ G (.int i)) (hi : i.natAbs.log2 < 1920) : Evd K (tFmt te) σ G (.str (toString i)) := fun H e Q q => h H e _ fun v G1 H1 n1 dv => by
  cases dv
  exact .inr ⟨i, rfl, hi, q _ G1 H1 n1 (.str _)⟩
end
end GL

set_option Elab.async false
set_option linter.all false
set_option autoImplicit false
set_option maxRecDepth 100000
set_option maxHeartbeats 2000000
namespace GL
open PySem PySem.Spec PyProof.Rows L2
/-- isinstance of what is of a built-in kind against an own class -/
theorem ed_isB {K : PySem.W.Frag} {σ : L2.St} {G : Hp} {ta tb : TE} {d : Da} {t : String} {C : Addr} {b : Bool} (h : Evd K ta σ G d) (hc : Evd K tb σ G (.obj C)) (ht : tyD d = some t) (hk : PySem.W.kitOne K (.type t) (.ref C) = some b) : Evd K (tCB (rIsi K) (tCons ta (tCons tb tNil))) σ G (.bl b) := fun H e Q q => h H e _ fun v G1 H1 n1 dv => hc.up n1.a H1 n1.b _ fun w G2 H2 n2 dw => by
  cases dw
  exact ⟨v, .ref C, .type t, .ref C, b, rfl, .own C, ty_of ((dv.up n2.a).up n2.b) ht, hk, q _ G2 H2 (n1.trans n2) (.bl b)⟩
end GL

set_option Elab.async false
set_option linter.all false
set_option maxRecDepth 100000
set_option maxHeartbeats 4000000
namespace K05
open PySem PySem.Spec PyProof.Rows L2 GL
def top (i : Nat) : Stmt := PySem.Challenge.pw_emptypulls_k05_texts_of_trips.main.body.getD i (.Pass ⟨0, 0, 0, 0⟩)
abbrev sCopied : Stmt := top 7
/-- what may be copied, n lists deep -/
def cp : Nat → Da → Bool
  | 0, _ => false
  | _ + 1, .non | _ + 1, .bl _ | _ + 1, .int _ | _ + 1, .str _ => true
  | n + 1, .lst ds => ds.all (cp n) && decide (ds.length ≤ 1000)
  | n + 1, .tup ds => ds.all (cp n) && decide (ds.length ≤ 1000)
  | n + 1, .dct ks ds => ds.all (fun d => flatD d && cp n d) && decide (ks.Nodup ∧ ks.length ≤ 1000)
  | _ + 1, _ => false
def gC (n : Nat) : List Da → Option Da
  | [d] => if cp n d = true then some d else none
  | _ => none
theorem gC_of {n : Nat} {d : Da} (h : cp n d = true) : gC n [d] = some d := if_pos h
theorem of_gC {n : Nat} {ds : List Da} {d : Da} (h : gC n ds = some d) : ds = [d] ∧ cp n d = true := by
  match ds, h with
  | [e], h =>
    have h : (if cp n e = true then some e else none) = some d := h
    by_cases q : cp n e = true
    · rw [if_pos q] at h; cases h; exact ⟨rfl, q⟩
    · rw [if_neg q] at h; cases h
theorem cp_flat {n : Nat} {d : Da} (h : flatD d = true) : cp (n + 1) d = true := by
  cases d <;> first | rfl | cases h
structure TC (K : PySem.W.Frag) (mg : Str → Option Value) (fC : Addr) : Prop where
  tw : ∃ CW, mg "Twinned" = some (.ref CW) ∧ (["NoneType", "bool", "int", "str"] : List String).all (fun T => decide (PySem.W.kitOne K (.type T) (.ref CW) = some false)) = true
  isi : mg "isinstance" = none
  list : mg "list" = none
  tuple : mg "tuple" = none
  dict : mg "dict" = none
  mC : mg "copied" = some (.ref fC)
theorem scC : FnScope ["value", "part", "key"] ["value"] (defScope sCopied) := ⟨rfl, rfl, rfl, by decide +kernel, rfl, by decide +kernel, by decide +kernel⟩
section
variable {P : Program} {w : World} {K : PySem.W.Frag} {mg : Str → Option Value} {base : Heap}
theorem t_isi {σ : L2.St} {G : Hp} {i : Nat} {v : V} {d : Da} {t T : String} {b : Bool} (hv : σ[i]? = some (some v)) (dv : DR K G v d) (ht : tyD d = some t) (hk : kitB t T = some b) : Evt (L2.tB (tCB (rIsi K) (tCons (tVar i) (tCons (tC (.ty T)) tNil)))) σ G b :=
  et_B (ed_isi (ed_var hv dv) ht hk)
theorem ok_copied {f : Addr} {fd : FuncData} (F : Fun K "copied" "copied" sCopied f fd) (bC : Binds K fd ["value"] []) (T : TC K mg f) : ∀ n, FnOk P w K mg base CX0 (n + 1) f fd ["value"] (Pd K 1 (gC n))
  | 0 => ⟨Pd.len, fun A outer s H args us vs Q E hr e0 bd rv h => by
      obtain ⟨G, ds, d, _, _, _, hg, _⟩ := h
      have z := (of_gC hg).2
      unfold cp at z
      cases z⟩
  | n + 1 => by
    have FR := ok_copied F bC T n
    obtain ⟨CW, mW, kW⟩ := T.tw
    have kw : ∀ t : String, t ∈ (["NoneType", "bool", "int", "str"] : List String) → PySem.W.kitOne K (.type t) (.ref CW) = some false := fun t ht => of_decide_eq_true (List.all_eq_true.mp kW t ht)
    refine F.ok scC Pd.len fun cdv A outer s H vs Q E hr h => ?_
    obtain ⟨G, ds, d, hs, hl, hd, hg, k⟩ := h
    obtain ⟨rfl, hcp⟩ := of_gC hg
    cases hd with
    | @cons v _ _ _ dv r =>
      cases r
      refine ⟨_, pss_cons (ps_if (pt_val (pe_callB call_isi (by rfl) T.isi PyProof.Rows.boot_isinstance (pa_cons (pv 0) (pa_cons (pe_bltn (v := .ty "list") rfl T.list (by decide +kernel) rfl) pa_nil))))
          (pss_one (ps_ret (pe_lc (own := [("part", 1)]) (g := gName 1) (tt := tYes) rfl scC.nd (pi_list (pv 0)) (blkOk_by (N := ["value", "part", "key"]) (sc := defScope sCopied) (by decide +kernel)) (fun _ _ _ _ _ => pg_name (i := 1) scC.nd rfl (Or.inl rfl)) (fun _ _ _ _ _ => pts_nil)
            (fun _ _ _ _ _ => pe_call FR hr rfl T.mC F.kp bC .nil pass0 (pa_cons (pv 1) pa_nil))))) pss_nil)
        (pss_cons (ps_if (pt_val (pe_callB call_isi (by rfl) T.isi PyProof.Rows.boot_isinstance (pa_cons (pv 0) (pa_cons (pe_bltn (v := .ty "tuple") rfl T.tuple (by decide +kernel) rfl) pa_nil))))
          (pss_one (ps_ret (pe_callTy call_tuple_of (by rfl) T.tuple (by decide +kernel) (pa_cons (pe_lc (own := [("part", 1)]) (g := gName 1) (tt := tYes) rfl scC.nd (pi_tup (pv 0)) (blkOk_by (N := ["value", "part", "key"]) (sc := defScope sCopied) (by decide +kernel)) (fun _ _ _ _ _ => pg_name (i := 1) scC.nd rfl (Or.inl rfl)) (fun _ _ _ _ _ => pts_nil)
            (fun _ _ _ _ _ => pe_call FR hr rfl T.mC F.kp bC .nil pass0 (pa_cons (pv 1) pa_nil))) pa_nil)))) pss_nil)
        (pss_cons (ps_if (pt_val (pe_callB call_isi (by rfl) T.isi PyProof.Rows.boot_isinstance (pa_cons (pv 0) (pa_cons (pe_bltn (v := .ty "dict") rfl T.dict (by decide +kernel) rfl) pa_nil))))
          (pss_one (ps_ret (pe_lock (pe_dc (own := [("key", 2)]) (g := gName 2) (tt := tYes) rfl scC.nd (pi_keys (pv 0)) (blkOk_by (N := ["value", "part", "key"]) (sc := defScope sCopied) (by decide +kernel)) (fun _ _ _ _ _ => pg_name (i := 2) scC.nd rfl (Or.inl rfl)) (fun _ _ _ _ _ => pts_nil)
            (fun _ _ _ _ _ => pv 2) (fun _ _ _ _ _ => pe_call FR hr rfl T.mC F.kp bC .nil pass0 (pa_cons (pe_dget (hu_of hr) (pv 0) (pv 2) (fun _ _ => rfl)) pa_nil)))))) pss_nil)
        (pss_cons (ps_if (pt_val (pe_callB call_isi (by rfl) T.isi PyProof.Rows.boot_isinstance (pa_cons (pv 0) (pa_cons (pe_own mW rfl) pa_nil)))) (pss_one ps_never) pss_nil)
        (pss_one (ps_ret (pv 0)))))), ?_⟩
      have no : ∀ {t T : String} {G1 H1 : Hp} {tu tz : TS} {D : Ends}, Nw G H G1 H1 → tyD d = some t → kitB t T = some false → (∀ G2 H2, Nw G H G2 H2 → tz D [some v, none, none] H2) →
          tSeq (tIfS (L2.tB (tCB (rIsi K) (tCons (tVar 0) (tCons (tC (.ty T)) tNil)))) tu tNext) tz D [some v, none, none] H1 := fun n1 ht hk go =>
        qd_if n1.b (t_isi rfl (dv.up n1.a) ht hk) (fun z => nomatch z) fun _ G2 H2 n2 => go G2 H2 (n1.trans n2)
      have yes : ∀ {t T : String} {G1 H1 : Hp} {tu tz : TS} {D : Ends}, Nw G H G1 H1 → tyD d = some t → kitB t T = some true → (∀ G2 H2, Nw G H G2 H2 → tu { D with nx := tz D } [some v, none, none] H2) →
          tSeq (tIfS (L2.tB (tCB (rIsi K) (tCons (tVar 0) (tCons (tC (.ty T)) tNil)))) tu tNext) tz D [some v, none, none] H1 := fun n1 ht hk go =>
        qd_if n1.b (t_isi rfl (dv.up n1.a) ht hk) (fun _ G2 H2 n2 => go G2 H2 (n1.trans n2)) fun z => nomatch z
      have noC : ∀ {t : String} {G1 H1 : Hp} {tu tz : TS} {D : Ends}, Nw G H G1 H1 → tyD d = some t → PySem.W.kitOne K (.type t) (.ref CW) = some false → (∀ G2 H2, Nw G H G2 H2 → tz D [some v, none, none] H2) →
          tSeq (tIfS (L2.tB (tCB (rIsi K) (tCons (tVar 0) (tCons (tC (.ref CW)) tNil)))) tu tNext) tz D [some v, none, none] H1 := fun n1 ht hk go =>
        qd_if n1.b (et_B (K := K) (ed_isB (ed_var rfl (dv.up n1.a)) (ed_c fun _ => .obj CW) ht hk)) (fun z => nomatch z) fun _ G2 H2 n2 => go G2 H2 (n1.trans n2)
      have n0 : Nw G H G H := Nw.refl hs
      have each : ∀ {ds : List Da}, (∀ e ∈ ds, cp n e = true) → ∀ {G2 : Hp} (x : V) (e : Da), e ∈ ds → DR K G2 x e → Evd K (tCall (Pd K 1 (gC n)) [] E0 (tCons (tVar 1) tNil)) [some v, some x, none] G2 e := @fun ds hall G2 x e he dx =>
        ed_call (xs_cons (ed_var rfl dx) es_nil) rfl (gC_of (hall e he))
      have all1 : ∀ {ds : List Da}, (ds.filter fun _ => true).map id = ds := by intro ds; simp
      cases d with
      | non => exact no n0 rfl (by decide +kernel) fun G1 H1 n1 => no n1 rfl (by decide +kernel) fun G2 H2 n2 => no n2 rfl (by decide +kernel) fun G3 H3 n3 => noC n3 rfl (kw _ (by simp)) fun G4 H4 n4 => ret_d k n4 (ed_var rfl (dv.up n4.a)) rfl
      | bl b => exact no n0 rfl (by decide +kernel) fun G1 H1 n1 => no n1 rfl (by decide +kernel) fun G2 H2 n2 => no n2 rfl (by decide +kernel) fun G3 H3 n3 => noC n3 rfl (kw _ (by simp)) fun G4 H4 n4 => ret_d k n4 (ed_var rfl (dv.up n4.a)) rfl
      | int i => exact no n0 rfl (by decide +kernel) fun G1 H1 n1 => no n1 rfl (by decide +kernel) fun G2 H2 n2 => no n2 rfl (by decide +kernel) fun G3 H3 n3 => noC n3 rfl (kw _ (by simp)) fun G4 H4 n4 => ret_d k n4 (ed_var rfl (dv.up n4.a)) rfl
      | str x => exact no n0 rfl (by decide +kernel) fun G1 H1 n1 => no n1 rfl (by decide +kernel) fun G2 H2 n2 => no n2 rfl (by decide +kernel) fun G3 H3 n3 => noC n3 rfl (kw _ (by simp)) fun G4 H4 n4 => ret_d k n4 (ed_var rfl (dv.up n4.a)) rfl
      | lst ds =>
        simp only [cp, Bool.and_eq_true, List.all_eq_true, decide_eq_true_eq] at hcp
        refine yes n0 rfl (by decide +kernel) fun G1 H1 n1 => ret_d k n1 (ed_is (ed_lc (fun _ => true) id (ed_var rfl (dv.up n1.a)) hcp.2 fun x e G2 H2 s1 s2 he dx => ⟨[some v, some x, none], fun k h => h, rfl, et_yes, fun _ G3 s3 => each hcp.1 x e he (dx.up s3)⟩) (by rw [all1])) rfl
      | tup ds =>
        simp only [cp, Bool.and_eq_true, List.all_eq_true, decide_eq_true_eq] at hcp
        refine no n0 rfl (by decide +kernel) fun G0 H0 n0 => yes n0 rfl (by decide +kernel) fun G1 H1 n1 => ret_d k n1 (ed_tupL (ed_is (ed_lcT (fun _ => true) id (ed_var rfl (dv.up n1.a)) hcp.2 fun x e G2 H2 s1 s2 he dx => ⟨[some v, some x, none], fun k h => h, rfl, et_yes, fun _ G3 s3 => each hcp.1 x e he (dx.up s3)⟩) (by rw [all1]))) rfl
      | dct ks ds =>
        simp only [cp, Bool.and_eq_true, List.all_eq_true, decide_eq_true_eq] at hcp
        refine no n0 rfl (by decide +kernel) fun G0 H0 n0 => no n0 rfl (by decide +kernel) fun G3 H3 n3 => yes n3 rfl (by decide +kernel) fun G1 H1 n1 => ret_d k n1 (ed_dcopy rfl (dv.up n1.a) hcp.2.1 (fun e he => ⟨(hcp.1 e he).1, gC_of (hcp.1 e he).2⟩) hcp.2.2 (fun _ => rfl) (fun _ => rfl) (fun _ => rfl)) rfl
      | _ => cases hcp
end
def gI : List Da → Option (List Da)
  | [d, e] => if cp 3 d = true ∧ cp 3 e = true then some [e, d] else none
  | _ => none
theorem gI2 {d e : Da} (h : cp 3 d = true) (h2 : cp 3 e = true) : gI [d, e] = some [e, d] := if_pos ⟨h, h2⟩
theorem of_gI2 {d e : Da} {es : List Da} (h : gI [d, e] = some es) : cp 3 d = true ∧ cp 3 e = true ∧ es = [e, d] := by
  have h : (if cp 3 d = true ∧ cp 3 e = true then some [e, d] else none) = some es := h
  by_cases q : cp 3 d = true ∧ cp 3 e = true
  · rw [if_pos q] at h; cases h; exact ⟨q.1, q.2, rfl⟩
  · rw [if_neg q] at h; cases h
abbrev sI_BadText : Stmt := inClass (top 13) 0
theorem sc_BadText : FnScope ["self", "line", "word"] ["self", "line", "word"] (defScope sI_BadText) := ⟨rfl, rfl, rfl, by decide +kernel, rfl, by decide +kernel, by decide +kernel⟩
theorem ok_BadText {P : Program} {w : World} {K : PySem.W.Frag} {mg : Str → Option Value} {base : Heap} {f C fC : Addr} {fd fdC : FuncData} (F : Fun K "__init__" "BadText.__init__" sI_BadText f fd) (T : TC K mg fC) (FC : Fun K "copied" "copied" sCopied fC fdC) (bC : Binds K fdC ["value"] []) (O : OexC K C) (n0 : PySem.W.findIn K (.ref C) "line" = some none) (n1 : PySem.W.findIn K (.ref C) "word" = some none) :
    FnOk P w K mg base CX0 5 f fd ["self", "line", "word"] (Pk K C 2 ["word", "line"] gI) := by
  refine F.ok sc_BadText Pk.len fun cdv A outer s H vs Q E hr h => ?_
  have GC := ok_copied (P := P) (w := w) (base := base) FC bC T 3
  obtain ⟨G, a, ws, ds, es, rfl, hl, hs, ga, ha, hd, hg, k⟩ := h
  match ds, hl, hd, hg with
  | [d, e], _, .cons dv (.cons dv2 .nil), hg =>
    obtain ⟨hc, hc2, rfl⟩ := of_gI2 hg
    exact ⟨_, pss_cons (ps_ost (pv 0) (pe_call GC hr rfl T.mC FC.kp bC .nil pass0 (pa_cons (pv 1) pa_nil))) (pss_one (ps_ost (pv 0) (pe_call GC hr rfl T.mC FC.kp bC .nil pass0 (pa_cons (pv 2) pa_nil)))), rk_init2 hs ga ha dv dv2 O n0 n1 (gC_of hc) (gC_of hc2) k rfl⟩
end K05

set_option Elab.async false
set_option linter.all false
set_option autoImplicit false
set_option maxRecDepth 100000
set_option maxHeartbeats 2000000
namespace GL
open PySem PySem.Spec PyProof.Rows L2
/-! names by isascii, isalpha, islower -/
def azL : Str := "abcdefghijklmnopqrstuvwxyz"
theorem az_tab : ((List.range 128).all fun c => (decide (c ∈ azL.cps.toList) == (Unicode.isAlpha c && !(Unicode.isUpper c || Unicode.isTitle c))) && (!decide (c ∈ azL.cps.toList) || Unicode.isLower c)) = true := by decide +kernel
theorem az_small {c : Nat} (h : c ∈ azL.cps.toList) : c < 128 := by
  have : azL.cps.toList.all (fun c => decide (c < 128)) = true := by decide +kernel
  exact of_decide_eq_true (List.all_eq_true.mp this c h)
theorem az_row {c : Nat} (h : c < 128) : decide (c ∈ azL.cps.toList) = (Unicode.isAlpha c && !(Unicode.isUpper c || Unicode.isTitle c)) ∧ (c ∈ azL.cps.toList → Unicode.isLower c = true) := by
  have := List.all_eq_true.mp az_tab c (List.mem_range.mpr h)
  rw [Bool.and_eq_true, beq_iff_eq] at this
  refine ⟨this.1, fun hc => ?_⟩
  have t2 := this.2
  rw [decide_eq_true hc, Bool.not_true, Bool.false_or] at t2
  exact t2
theorem nm_ascii (x : Str) : (Txt.isascii x && (Txt.isalpha x && Txt.islower x)) = (decide ((1 : Int) ≤ (x.length : Int)) && (x.cps.toList.map fun c => decide (c ∈ azL.cps.toList)).all id) := by
  unfold Txt.isascii Txt.isalpha Txt.islower
  simp only [← Array.all_toList, ← Array.any_toList]
  have hl : x.length = x.cps.toList.length := by simp [Str.length]
  rw [hl]
  generalize x.cps.toList = l
  rw [Bool.eq_iff_iff]
  simp only [Bool.and_eq_true, List.all_eq_true, decide_eq_true_eq, Bool.not_eq_true', List.any_eq_true, List.any_eq_false, Bool.or_eq_true, List.mem_map, id]
  constructor
  · rintro ⟨h1, ⟨h2, h3⟩, h4, h5⟩
    refine ⟨by omega, ?_⟩
    rintro b ⟨c, hc, rfl⟩
    have hr := (az_row (h1 c hc)).1
    rw [hr, Bool.and_eq_true]
    refine ⟨h3 c hc, ?_⟩
    have := h5 c hc
    cases e : (Unicode.isUpper c || Unicode.isTitle c) with
    | false => rfl
    | true => rw [Bool.or_eq_true] at e; exact absurd e this
  · rintro ⟨h1, h2⟩
    have ha : ∀ c ∈ l, c ∈ azL.cps.toList := fun c hc => of_decide_eq_true (h2 _ ⟨c, hc, rfl⟩)
    refine ⟨fun c hc => az_small (ha c hc), ⟨by omega, fun c hc => ?_⟩, ?_, fun c hc => ?_⟩
    · have hr := (az_row (az_small (ha c hc))).1
      rw [decide_eq_true (ha c hc)] at hr
      exact (Bool.and_eq_true _ _ ▸ hr.symm).1
    · cases l with
      | nil => simp at h1
      | cons c r => exact ⟨c, by simp, (az_row (az_small (ha c (by simp)))).2 (ha c (by simp))⟩
    · have hr := (az_row (az_small (ha c hc))).1
      rw [decide_eq_true (ha c hc)] at hr
      have := (Bool.and_eq_true _ _ ▸ hr.symm).2
      intro e
      rw [← Bool.or_eq_true] at e
      rw [e] at this
      cases this
section
variable {K : PySem.W.Frag} {σ : L2.St} {G : Hp} {te : TE} {z : Str}
theorem ed_m0b {g : Str → Bool} (h : Evd K te σ G (.str z)) : Evd K (tM0 (fun x xs H Q => ∃ a, x = .str a ∧ xs = [] ∧ True ∧ Q (.bl (g a)) H) te) σ G (.bl (g z)) := fun H e Q q => h H e _ fun v G1 H1 n1 dv => by
  cases dv
  exact ⟨⟨z, rfl⟩, z, rfl, rfl, trivial, q _ G1 H1 n1 (.bl _)⟩
end
end GL

set_option Elab.async false
set_option linter.all false
set_option maxRecDepth 100000
set_option maxHeartbeats 4000000
namespace K05
open PySem PySem.Spec PyProof.Rows L2 GL
def LET : Str := "abcdefghijklmnopqrstuvwxyz"
def prices : List Str := (List.range 100).map fun k : Nat => ((toString (k : Int) : String) : Str)
/-- what is a name, a way's word, a price's word; the first word of a text that cannot stand -/
def isNm (x : Str) : Bool := (decide ((1 : Int) ≤ (x.length : Int)) && decide ((x.length : Int) ≤ 8)) && (x.cps.toList.map fun c => decide (c ∈ LET.cps.toList)).all id
def isWay (x : Str) : Bool := match Txt.split x ">" with
  | [a, b] => !decide (a = b) && (isNm a && isNm b)
  | _ => false
def wrongW : List Str → Option Int
  | [] => none
  | [x] => if isWay x = true then some 1 else some 0
  | x :: y :: r => if isWay x = true then (if prices.contains y = true then (if r = [] then none else some 2) else some 1) else some 0
def oI : Option Int → Da
  | none => .non
  | some i => .int i
structure T5 (P : Program) (w : World) (K : PySem.W.Frag) (mg : Str → Option Value) (base : Heap) (CT : Addr) : Prop where
  n_isinstance : mg "isinstance" = none
  n_all : mg "all" = none
  n_len : mg "len" = none
  n_str : mg "str" = none
  n_int : mg "int" = none
  n_bool : mg "bool" = none
  n_list : mg "list" = none
  n_range : mg "range" = none
  n_abs : mg "abs" = none
  i_LONGEST : ∃ t, mg "LONGEST_NAME" = some (.int 8 t)
  m_Trip : mg "Trip" = some (.ref CT)
  rd_Trip : ∃ mc, ClX.CRead K CT mc ∧ ∃ t, ClX.CVal K CT mc "MOST" (.int 99) (.int 99 t)
section
variable {P : Program} {w : World} {K : PySem.W.Frag} {mg : Str → Option Value} {base : Heap} {CT : Addr}
def sgOf : Da → Nat
  | .str s => s.cps.getD 0 0
  | _ => 0
theorem nm_list (x : Str) : (((x.cps.toList.map fun c => Da.str (sgn c)).filter fun _ => true).map fun d => Da.bl (decide (sgOf d ∈ LET.cps.toList))) = (x.cps.toList.map fun c => decide (c ∈ LET.cps.toList)).map Da.bl := by
  rw [List.filter_eq_self.mpr fun _ _ => rfl, List.map_map, List.map_map]
  rfl
theorem pr_list : (((List.range 100).map fun k : Nat => Da.int (k : Int)).filter fun _ => true).map (fun d => match d with | .int i => Da.str ((toString i : String) : Str) | d => d) = prices.map Da.str := by
  rw [List.filter_eq_self.mpr fun _ _ => rfl]
  unfold prices
  rw [List.map_map, List.map_map]
  rfl
abbrev s_is_integer : Stmt := top 4
abbrev s_is_integer_within : Stmt := top 5
abbrev s_is_name : Stmt := top 6
abbrev s_is_price : Stmt := top 16
abbrev s_is_way_word : Stmt := top 17
abbrev s_is_price_word : Stmt := top 18
abbrev s_wrong_trip_word : Stmt := top 19
abbrev s__law_pen : Stmt := top 21
abbrev s__law_draw : Stmt := top 22
abbrev s__law_pick : Stmt := top 23
abbrev s__law_heard : Stmt := top 24
abbrev s__law_is_name : Stmt := top 25
abbrev s__law_wrong : Stmt := top 26
abbrev s__law_bent : Stmt := top 27
abbrev s_law : Stmt := top 28
theorem sc_is_name : FnScope ["value"] ["value"] (defScope s_is_name) := ⟨rfl, rfl, rfl, by decide +kernel, rfl, by decide +kernel, by decide +kernel⟩
theorem ok_is_name {f : Addr} {fd : FuncData} (F : Fun K "is_name" "is_name" s_is_name f fd) (T : T5 P w K mg base CT) : FnOk P w K mg base CX0 1 f fd ["value"] (Pr K 1 fun ds d => ∃ x : Str, x.length ≤ 1000 ∧ ds = [.str x] ∧ d = .bl (isNm x)) := by
  refine F.ok sc_is_name Pr.len fun cdv A outer s H vs Q E hr h => ?_
  obtain ⟨G, ds, d, hs, hl, hd, ⟨x, hx, rfl, rfl⟩, k⟩ := h
  obtain ⟨v, rfl, dv⟩ := one_of hd
  refine ⟨_, (pss_cons (ps_if (PW.pt (pw_or (pt_not (pt_val (pe_callB call_isi (by rfl) T.n_isinstance PyProof.Rows.boot_isinstance (pa_cons (pv 0) (pa_cons (pe_bltn (v := .ty "str") rfl T.n_str (by decide +kernel) rfl) pa_nil))))) (pw_or1 (pt_cmpR op_gt (pe_callB call_len_str (by rfl) T.n_len PySem.boot_len (pa_cons (pv 0) pa_nil)) (pe_kI T.i_LONGEST rfl) (nomark _))))) (pss_one (ps_ret pe_bl)) pss_nil)
      (pss_one (ps_ret (pe_and (pe_m0 PySem.F.slot_str_isascii PySem.F.type_str_isascii mt_isascii (pv 0)) (pe_and (pe_m0 PySem.F.slot_str_isalpha PySem.F.type_str_isalpha mt_isalpha (pv 0)) (pe_one (pe_m0 PySem.F.slot_str_islower PySem.F.type_str_islower mt_islower (pv 0)))))))), ?_⟩
  refine qd_if hs (b := (!true) || decide ((8 : Int) < (x.length : Int))) (x_or (et_not (et_B (K := K) (ed_isi (ed_var rfl dv) rfl (by decide +kernel)))) (et_of (K := K) (ed_gtI (ed_lenS (ed_var rfl dv) hx) xc_int rfl))) (fun hb G1 H1 n1 => ?_) (fun hb G1 H1 n1 => ?_)
  · refine ret_d k n1 (ed_is (xc_bl (b := false)) ?_) rfl
    unfold isNm
    rw [Bool.not_true, Bool.false_or, decide_eq_true_eq] at hb
    rw [decide_eq_false (show ¬ (x.length : Int) ≤ 8 by omega), Bool.and_false, Bool.false_and]
  · refine ret_d k n1 (ed_is (x_andV (ed_m0b (ed_var rfl (dv.up n1.a))) (x_andV (ed_m0b (ed_var rfl (dv.up n1.a))) (ed_m0b (ed_var rfl (dv.up n1.a))))) ?_) rfl
    rw [nm_ascii]
    unfold isNm
    rw [Bool.not_true, Bool.false_or, decide_eq_false_iff_not] at hb
    rw [decide_eq_true (show (x.length : Int) ≤ 8 by omega), Bool.and_true]
    rfl
theorem le_sum : ∀ {l : List Nat} {a : Nat}, a ∈ l → a ≤ l.sum
  | b :: r, a, h => by
    rw [List.sum_cons]
    rcases List.mem_cons.mp h with rfl | h
    · omega
    · have := le_sum h; omega
theorem piece_le {x y z : Str} (h : y ∈ Txt.split x z) (hz : 1 ≤ z.length) : y.length ≤ x.length := by
  have h1 := split_weight x z hz
  have h2 := split_pos x z
  have h3 := le_sum (List.mem_map.mpr ⟨y, h, rfl⟩ : y.length ∈ (Txt.split x z).map (·.length))
  omega
theorem ed_notV {K : PySem.W.Frag} {σ : L2.St} {G : Hp} {te : TE} {b : Bool} (h : Evd K te σ G (.bl b)) : Evd K (tNotV te) σ G (.bl (!b)) := fun H e Q q => h H e _ fun v G1 H1 n1 dv => by
  cases dv
  exact ⟨b, rfl, q _ G1 H1 n1 (.bl _)⟩
theorem wW1 (a : Str) : wrongW [a] = if isWay a = true then some 1 else some 0 := rfl
theorem wW2 (a b : Str) (r : List Str) : wrongW (a :: b :: r) = if isWay a = true then (if prices.contains b = true then (if r = [] then none else some 2) else some 1) else some 0 := rfl
theorem sc_is_integer : FnScope ["value"] ["value"] (defScope s_is_integer) := ⟨rfl, rfl, rfl, by decide +kernel, rfl, by decide +kernel, by decide +kernel⟩
theorem ok_is_integer {f : Addr} {fd : FuncData} (F : Fun K "is_integer" "is_integer" s_is_integer f fd) (T : T5 P w K mg base CT) : FnOk P w K mg base CX0 1 f fd ["value"] (Pr K 1 fun ds d => ∃ i : Int, ds = [.int i] ∧ d = .bl true) := by
  refine F.ok sc_is_integer Pr.len fun cdv A outer s H vs Q E hr h => ?_
  obtain ⟨G, ds, d, hs, hl, hd, ⟨i, rfl, rfl⟩, k⟩ := h
  obtain ⟨v, rfl, dv⟩ := one_of hd
  exact ⟨_, (pss_one (ps_ret (pe_and (pe_callB call_isi (by rfl) T.n_isinstance PyProof.Rows.boot_isinstance (pa_cons (pv 0) (pa_cons (pe_bltn (v := .ty "int") rfl T.n_int (by decide +kernel) rfl) pa_nil))) (pe_one (pe_not (pe_callB call_isi (by rfl) T.n_isinstance PyProof.Rows.boot_isinstance (pa_cons (pv 0) (pa_cons (pe_bltn (v := .ty "bool") rfl T.n_bool (by decide +kernel) rfl) pa_nil)))))))), ret_d k (Nw.refl hs) (x_andV (b := true) (c := true) (ed_isi (ed_var rfl dv) rfl (by decide +kernel)) (ed_notV (b := false) (ed_isi (ed_var rfl dv) rfl (by decide +kernel)))) rfl⟩
theorem sc_is_integer_within : FnScope ["value", "least", "most"] ["value", "least", "most"] (defScope s_is_integer_within) := ⟨rfl, rfl, rfl, by decide +kernel, rfl, by decide +kernel, by decide +kernel⟩
theorem ok_is_integer_within {f : Addr} {fd : FuncData} (F : Fun K "is_integer_within" "is_integer_within" s_is_integer_within f fd) (F_is_integer : CalO P w K mg base 1 "is_integer" ["value"] (Pr K 1 fun ds d => ∃ i : Int, ds = [.int i] ∧ d = .bl true)) : FnOk P w K mg base CX0 2 f fd ["value", "least", "most"] (Pr K 3 fun ds d => ∃ i a b : Int, ds = [.int i, .int a, .int b] ∧ d = .bl (decide (a ≤ i) && decide (i ≤ b))) := by
  refine F.ok sc_is_integer_within Pr.len fun cdv A outer s H vs Q E hr h => ?_
  obtain ⟨G, ds, d, hs, hl, hd, ⟨i, a, b, rfl, rfl⟩, k⟩ := h
  obtain ⟨v, v2, v3, rfl, d0, d1, d2⟩ := three_of hd
  exact ⟨_, (pss_one (ps_ret (pe_and (pe_calO F_is_integer (hr.mono (by decide)) rfl (pa_cons (pv 0) pa_nil)) (pe_one (pe_chain op_le op_le (pv 1) (pv 0) (pv 2)))))), ret_d k (Nw.refl hs) (ed_is (x_andV (b := true) (x_callR (xs_cons (ed_var rfl d0) es_nil) rfl ⟨i, rfl, rfl⟩) (ed_le2 (ed_var rfl d1) (ed_var rfl d0) (ed_var rfl d2))) (by rw [Bool.true_and])) rfl⟩
theorem sc_is_price : FnScope ["value"] ["value"] (defScope s_is_price) := ⟨rfl, rfl, rfl, by decide +kernel, rfl, by decide +kernel, by decide +kernel⟩
theorem ok_is_price {f : Addr} {fd : FuncData} (F : Fun K "is_price" "is_price" s_is_price f fd) (T : T5 P w K mg base CT) (F_is_integer_within : CalO P w K mg base 2 "is_integer_within" ["value", "least", "most"] (Pr K 3 fun ds d => ∃ i a b : Int, ds = [.int i, .int a, .int b] ∧ d = .bl (decide (a ≤ i) && decide (i ≤ b)))) : FnOk P w K mg base CX0 3 f fd ["value"] (Pr K 1 fun ds d => ∃ i : Int, ds = [.int i] ∧ d = .bl (decide (0 ≤ i) && decide (i ≤ 99))) := by
  refine F.ok sc_is_price Pr.len fun cdv A outer s H vs Q E hr h => ?_
  obtain ⟨G, ds, d, hs, hl, hd, ⟨i, rfl, rfl⟩, k⟩ := h
  obtain ⟨v, rfl, d0⟩ := one_of hd
  obtain ⟨mc, rd, t, cv⟩ := T.rd_Trip
  exact ⟨_, (pss_one (ps_ret (pe_calO F_is_integer_within (hr.mono (by decide)) rfl (pa_cons (pv 0) (pa_cons pe_int (pa_cons (ClX.pe_cval (pe_own T.m_Trip rfl)) pa_nil)))))), ret_d k (Nw.refl hs) (x_callR (xs_cons (ed_var rfl d0) (xs_cons xc_int (xs_cons (ed_cval (ed_c fun _ => .obj CT) rd cv fun _ => .int 99) es_nil))) rfl ⟨i, 0, 99, rfl, rfl⟩) rfl⟩
theorem sc_is_way_word : FnScope ["word", "ends"] ["word"] (defScope s_is_way_word) := ⟨rfl, rfl, rfl, by decide +kernel, rfl, by decide +kernel, by decide +kernel⟩
theorem ok_is_way_word {f : Addr} {fd : FuncData} (F : Fun K "is_way_word" "is_way_word" s_is_way_word f fd) (T : T5 P w K mg base CT) (F_is_name : CalO P w K mg base 1 "is_name" ["value"] (Pr K 1 fun ds d => ∃ x : Str, x.length ≤ 1000 ∧ ds = [.str x] ∧ d = .bl (isNm x))) : FnOk P w K mg base CX0 2 f fd ["word"] (Pr K 1 fun ds d => ∃ x : Str, x.length ≤ 900 ∧ ds = [.str x] ∧ d = .bl (isWay x)) := by
  refine F.ok sc_is_way_word Pr.len fun cdv A outer s H vs Q E hr h => ?_
  obtain ⟨G, ds, d, hs, hl, hd, ⟨x, hx, rfl, rfl⟩, k⟩ := h
  obtain ⟨v, rfl, d0⟩ := one_of hd
  refine ⟨_, (pss_cons (ps_set (i := 1) sc_is_way_word.nd rfl (Or.inl rfl) (pe_split (pv 0) pe_str))
      (pss_cons (ps_if (PW.pt (pw_or (pt_cmpR op_ne (pe_callB call_len_seq (by rfl) T.n_len PySem.boot_len (pa_cons (pv 1) pa_nil)) pe_int (nomark _)) (pw_or1 (pt_cmpR op_eq (pe_ix ix_list (pv 1) pe_int (fun _ _ => rfl)) (pe_ix ix_list (pv 1) pe_int (fun _ _ => rfl)) (nomark _))))) (pss_one (ps_ret pe_bl)) pss_nil)
      (pss_one (ps_ret (pe_and (pe_calO F_is_name (hr.mono (by decide)) rfl (pa_cons (pe_ix ix_list (pv 1) pe_int (fun _ _ => rfl)) pa_nil)) (pe_one (pe_calO F_is_name (hr.mono (by decide)) rfl (pa_cons (pe_ix ix_list (pv 1) pe_int (fun _ _ => rfl)) pa_nil)))))))), ?_⟩
  refine qd_asg hs (ed_split (K := K) (ed_var rfl d0) xc_str (by decide) hx) fun wv G1 H1 n1 dn => ?_
  have pl : ∀ y ∈ Txt.split x ">", y.length ≤ x.length := fun y hy => piece_le hy (by decide)
  unfold isWay at k
  generalize hys : Txt.split x ">" = ys at dn pl k
  by_cases h2 : ys.length = 2
  · obtain ⟨a, b, rfl⟩ : ∃ a b, ys = [a, b] := by
      match ys, h2 with
      | [a, b], _ => exact ⟨a, b, rfl⟩
    have pa := pl a (by simp)
    have pb := pl b (by simp)
    refine qd_if n1.b (et_or (b := false) (c := decide (a = b)) (et_of (ed_neI (K := K) (ed_lenL (ed_var rfl dn)) xc_int (by rw [List.length_map]; rfl))) fun _ G' s' => et_of (x_eqs (K := K) (ed_ixL (i := 0) (ed_var rfl (dn.up s')) (fun _ _ => xc_int) rfl) (ed_ixL (i := 1) (ed_var rfl (dn.up s')) (fun _ _ => xc_int) rfl) rfl)) (fun hb G2 H2 n2 => ?_) (fun hb G2 H2 n2 => ?_)
    · rw [Bool.false_or] at hb
      exact ret_d k (n1.trans n2) (ed_is (xc_bl (b := false)) (by show Da.bl false = Da.bl (!decide (a = b) && (isNm a && isNm b)); rw [hb]; rfl)) rfl
    · rw [Bool.false_or] at hb
      have dn := dn.up n2.a
      exact ret_d k (n1.trans n2) (ed_is (x_andV (x_callR (xs_cons (ed_ixL (i := 0) (ed_var rfl dn) (fun _ _ => xc_int) rfl) es_nil) rfl ⟨a, by omega, rfl, rfl⟩) (x_callR (xs_cons (ed_ixL (i := 1) (ed_var rfl dn) (fun _ _ => xc_int) rfl) es_nil) rfl ⟨b, by omega, rfl, rfl⟩)) (by show Da.bl _ = Da.bl (!decide (a = b) && (isNm a && isNm b)); rw [hb]; rfl)) rfl
  · refine qd_if n1.b (et_or (b := true) (c := true) (et_of (ed_neI (K := K) (ed_lenL (ed_var rfl dn)) xc_int (by
      rw [List.length_map, Bool.not_eq_true', decide_eq_false_iff_not]; omega))) fun z => nomatch z) (fun hb G2 H2 n2 => ?_) (fun z => nomatch z)
    refine ret_d k (n1.trans n2) (ed_is (xc_bl (b := false)) ?_) rfl
    match ys, h2 with
    | [], _ => rfl
    | [_], _ => rfl
    | [_, _], h => exact absurd rfl h
    | _ :: _ :: _ :: _, _ => rfl
theorem sc_is_price_word : FnScope ["word", "price"] ["word"] (defScope s_is_price_word) := ⟨rfl, rfl, rfl, by decide +kernel, rfl, by decide +kernel, by decide +kernel⟩
theorem ok_is_price_word {f : Addr} {fd : FuncData} (F : Fun K "is_price_word" "is_price_word" s_is_price_word f fd) (T : T5 P w K mg base CT) : FnOk P w K mg base CX0 1 f fd ["word"] (Pr K 1 fun ds d => ∃ x : Str, ds = [.str x] ∧ d = .bl (prices.contains x)) := by
  refine F.ok sc_is_price_word Pr.len fun cdv A outer s H vs Q E hr h => ?_
  obtain ⟨G, ds, d, hs, hl, hd, ⟨x, rfl, rfl⟩, k⟩ := h
  obtain ⟨v, rfl, d0⟩ := one_of hd
  obtain ⟨mc, rd, t, cv⟩ := T.rd_Trip
  refine ⟨_, (pss_one (ps_ret (pe_cmpR op_in_seq (pv 0) (pe_lc (own := [("price", 1)]) (g := (gName 1)) (tt := tYes) rfl sc_is_price_word.nd (pi_range1 rfl T.n_range (pa_cons (pe_op op_add (ClX.pe_cval (pe_own T.m_Trip rfl)) pe_int) pa_nil)) (blkOk_by (N := ["word", "price"]) (sc := defScope s_is_price_word) (by decide +kernel)) (fun _ _ _ _ _ => (pg_name (i := 1) sc_is_price_word.nd rfl (Or.inl rfl))) (fun _ _ _ _ _ => pts_nil) (fun _ _ _ _ _ => (pe_callTy call_str_int (by rfl) T.n_str (by decide +kernel) (pa_cons (pv 1) pa_nil)))) (by rfl)))), ?_⟩
  refine ret_d k (Nw.refl hs) (ed_inL (ed_var rfl d0) (ed_is (ed_lcR (n := 100) (fun _ => true) (fun d => match d with | .int i => Da.str ((toString i : String) : Str) | d => d) (ed_addI (i := 99) (j := 1) (ed_cval (ed_c fun _ => .obj CT) rd cv fun _ => .int 99) xc_int) (by decide) fun y d G' H' s1 s2 hm dy => ?_) (congrArg Da.lst pr_list))) rfl
  obtain ⟨c, hc, rfl⟩ := List.mem_map.mp hm
  refine ⟨_, go_name, rfl, et_yes, fun _ G2 s3 => ed_strI (ed_var rfl (dy.up s3)) ?_⟩
  have hc := List.mem_range.mp hc
  have : ((c : Int)).natAbs.log2 < 1920 := by
    rw [Int.natAbs_natCast]
    by_cases hz : c = 0
    · rw [hz]; decide
    · exact (Nat.log2_lt hz).mpr (Nat.lt_of_lt_of_le (show c < 2 ^ 7 by omega) (Nat.pow_le_pow_right (by decide) (by decide)))
  exact this
theorem sc_wrong_trip_word : FnScope ["words"] ["words"] (defScope s_wrong_trip_word) := ⟨rfl, rfl, rfl, by decide +kernel, rfl, by decide +kernel, by decide +kernel⟩
theorem ok_wrong_trip_word {f : Addr} {fd : FuncData} (F : Fun K "wrong_trip_word" "wrong_trip_word" s_wrong_trip_word f fd) (T : T5 P w K mg base CT) (F_is_way_word : CalO P w K mg base 2 "is_way_word" ["word"] (Pr K 1 fun ds d => ∃ x : Str, x.length ≤ 900 ∧ ds = [.str x] ∧ d = .bl (isWay x))) (F_is_price_word : CalO P w K mg base 1 "is_price_word" ["word"] (Pr K 1 fun ds d => ∃ x : Str, ds = [.str x] ∧ d = .bl (prices.contains x))) :
    FnOk P w K mg base CX0 3 f fd ["words"] (Pr K 1 fun ds d => ∃ ys : List Str, ys ≠ [] ∧ (∀ y ∈ ys, y.length ≤ 900) ∧ ds = [.lst (ys.map Da.str)] ∧ d = oI (wrongW ys)) := by
  refine F.ok sc_wrong_trip_word Pr.len fun cdv A outer s H vs Q E hr h => ?_
  obtain ⟨G, ds, d, hs, hl, hd, ⟨ys, ne, hy, rfl, rfl⟩, k⟩ := h
  obtain ⟨v, rfl, d0⟩ := one_of hd
  refine ⟨_, (pss_cons (ps_if (pt_not (pt_val (pe_calO F_is_way_word (hr.mono (by decide)) rfl (pa_cons (pe_ix ix_list (pv 0) pe_int (fun _ _ => rfl)) pa_nil)))) (pss_one (ps_ret pe_int)) pss_nil)
      (pss_cons (ps_if (PW.pt (pw_or (pt_cmpR op_eq (pe_callB call_len_seq (by rfl) T.n_len PySem.boot_len (pa_cons (pv 0) pa_nil)) pe_int (nomark _)) (pw_or1 (pt_not (pt_val (pe_calO F_is_price_word (hr.mono (by decide)) rfl (pa_cons (pe_ix ix_list (pv 0) pe_int (fun _ _ => rfl)) pa_nil))))))) (pss_one (ps_ret pe_int)) pss_nil)
      (pss_cons (ps_if (pt_cmpR op_gt (pe_callB call_len_seq (by rfl) T.n_len PySem.boot_len (pa_cons (pv 0) pa_nil)) pe_int (nomark _)) (pss_one (ps_ret pe_int)) pss_nil)
      (pss_one (ps_ret pe_non))))), ?_⟩
  cases ys with
  | nil => exact absurd rfl ne
  | cons a r =>
    refine qd_if hs (et_not (et_B (K := K) (x_callR (xs_cons (ed_ixL (i := 0) (ed_var rfl d0) (fun _ _ => xc_int) rfl) es_nil) rfl ⟨a, hy a (by simp), rfl, rfl⟩))) (fun hb G1 H1 n1 => ?_) (fun hb G1 H1 n1 => ?_)
    · rw [Bool.not_eq_true'] at hb
      refine ret_d k n1 (ed_is (xc_int (i := 0)) ?_) rfl
      cases r with
      | nil => rw [wW1, if_neg (by rw [hb]; exact Bool.false_ne_true)]; rfl
      | cons b r => rw [wW2, if_neg (by rw [hb]; exact Bool.false_ne_true)]; rfl
    · rw [Bool.not_eq_false'] at hb
      have d1 := d0.up n1.a
      cases r with
      | nil =>
        refine qd_if n1.b (et_or (b := true) (c := true) (et_of (ed_eqI (K := K) (ed_lenL (ed_var rfl d1)) xc_int (by rw [List.length_map]; rfl))) fun z => nomatch z) (fun hb2 G2 H2 n2 => ?_) (fun z => nomatch z)
        refine ret_d k (n1.trans n2) (ed_is (xc_int (i := 1)) ?_) rfl
        rw [wW1, if_pos hb]; rfl
      | cons b r =>
        refine qd_if n1.b (et_or (b := false) (c := !prices.contains b) (et_of (ed_eqI (K := K) (ed_lenL (ed_var rfl d1)) xc_int (by rw [decide_eq_false_iff_not, List.length_map, List.length_cons, List.length_cons]; omega))) fun _ G' s' => et_not (et_B (K := K) (x_callR (xs_cons (ed_ixL (i := 1) (ed_var rfl (d1.up s')) (fun _ _ => xc_int) rfl) es_nil) rfl ⟨b, rfl, rfl⟩))) (fun hb2 G2 H2 n2 => ?_) (fun hb2 G2 H2 n2 => ?_)
        · rw [Bool.false_or, Bool.not_eq_true'] at hb2
          refine ret_d k (n1.trans n2) (ed_is (xc_int (i := 1)) ?_) rfl
          rw [wW2, if_pos hb, if_neg (by rw [hb2]; exact Bool.false_ne_true)]; rfl
        · rw [Bool.false_or, Bool.not_eq_false'] at hb2
          have d2 := d1.up n2.a
          refine qd_if n2.b (et_of (ed_gtI (K := K) (b := decide (r ≠ [])) (ed_lenL (ed_var rfl d2)) xc_int (by rw [decide_eq_decide, List.length_map, List.length_cons, List.length_cons]; cases r <;> simp <;> omega))) (fun hb3 G3 H3 n3 => ?_) (fun hb3 G3 H3 n3 => ?_)
          · refine ret_d k ((n1.trans n2).trans n3) (ed_is (xc_int (i := 2)) ?_) rfl
            rw [wW2, if_pos hb, if_pos hb2, if_neg (of_decide_eq_true hb3)]; rfl
          · show Q V.non H3
            refine k _ G3 H3 ((n1.trans n2).trans n3) ?_
            rw [wW2, if_pos hb, if_pos hb2, if_pos (by have := of_decide_eq_false hb3; simpa using this)]; exact .non
end
end K05

set_option Elab.async false
set_option linter.all false
set_option maxRecDepth 100000
set_option maxHeartbeats 4000000
namespace K05
open PySem PySem.Spec PyProof.Rows L2 GL
theorem ins_fin {K : PySem.W.Frag} {G H G4 H4 H' : Hp} {a C dx : Addr} {o : HO} {ns : List Str} {us : List V} {es : List Da} {Q : VK} (n : Nw G H G4 H4) (ha : H a = some o) (ga : G a = none)
    (k : ∀ G' H', (∀ b o, b ≠ a → H b = some o → H' b = some o) → Same G G' → Same G' H' → (∀ b o, b ≠ a → H b = some o → G b = none → G' b = none) → DR K G' (.ref a) (.ins C ns es) → Q .non H')
    (e1 : H' a = some (.ins C dx (ns.zip us))) (e2 : ∀ b, b ≠ a → H' b = H4 b) (hl : ns.length = us.length) (dd : DRs K G4 us es) : Q .non H' := by
  have g4 : G4 a = none := n.n a _ ha ga
  have up : Same G4 (upd G4 a (.ins C dx (ns.zip us))) := same_upd (Same.refl _) g4
  refine k (upd G4 a (.ins C dx (ns.zip us))) H' (fun b u hb z => by rw [e2 b hb]; exact n.s _ _ z) (n.a.trans up) (fun b u z => ?_) (fun b u hb z q => by rw [upd_ne hb]; exact n.n _ _ z q) (.ins upd_same hl (dd.up up))
  by_cases hb : b = a
  · subst hb; rw [upd_same] at z; rw [e1]; exact z
  · rw [upd_ne hb] at z; rw [e2 b hb]; exact n.b _ _ z
def tripN : List Str := ["start", "goal", "price"]
def tripD (C : Addr) (a b : Str) (m : Int) : Da := .ins C tripN [.str a, .str b, .int m]
/-- what may be a trip -/
def TripOk (a b : Str) (m : Int) : Prop := isNm a = true ∧ isNm b = true ∧ a ≠ b ∧ 0 ≤ m ∧ m ≤ 99
theorem nm_len {a : Str} (h : isNm a = true) : a.length ≤ 8 := by
  unfold isNm at h
  rw [Bool.and_eq_true, Bool.and_eq_true] at h
  have := of_decide_eq_true h.1.2
  omega
def Rtrip (ds : List Da) (ns : List Str) (es : List Da) : Prop := ∃ a b m, TripOk a b m ∧ ds = [.str a, .str b, .int m] ∧ ns = tripN ∧ es = ds
abbrev sT_init : Stmt := inClass (top 15) 1
abbrev sT_str : Stmt := inClass (top 15) 6
abbrev sT_eq : Stmt := inClass (top 15) 5
abbrev sT_read : Stmt := inClass (top 15) 7
section
variable {P : Program} {w : World} {K : PySem.W.Frag} {mg : Str → Option Value} {base : Heap} {CT : Addr}
structure TT (K : PySem.W.Frag) (CT : Addr) : Prop where
  cls : Cls K CT
  n1 : NoAttr K CT "start"
  n2 : NoAttr K CT "goal"
  n3 : NoAttr K CT "price"
theorem sc_init : FnScope ["self", "start", "goal", "price"] ["self", "start", "goal", "price"] (defScope sT_init) := ⟨rfl, rfl, rfl, by decide +kernel, rfl, by decide +kernel, by decide +kernel⟩
theorem ok_init {f : Addr} {fd : FuncData} (F : FunD K "__init__" "Trip.__init__" (defArgs sT_init) (defBody sT_init) (defScope sT_init) [.int 1] [] f fd) (T : T5 P w K mg base CT) (B : TT K CT) (F_is_name : CalO P w K mg base 1 "is_name" ["value"] (Pr K 1 fun ds d => ∃ x : Str, x.length ≤ 1000 ∧ ds = [.str x] ∧ d = .bl (isNm x)))
    (F_is_price : CalO P w K mg base 3 "is_price" ["value"] (Pr K 1 fun ds d => ∃ i : Int, ds = [.int i] ∧ d = .bl (decide (0 ≤ i) && decide (i ≤ 99)))) : FnOk P w K mg base CX0 4 f fd ["self", "start", "goal", "price"] (PiN K CT 3 Rtrip) := by
  refine F.ok (CX := CX0) sc_init PiN.len fun cdv A outer s H vs Q E hr h => ?_
  obtain ⟨G, a, dx, ws, ds, ns, es, rfl, hl, hs, ga, ha, hd, ⟨x, y, m, ok, rfl, rfl, rfl⟩, k⟩ := h
  obtain ⟨v1, v2, v3, rfl, d1, d2, d3⟩ := three_of hd
  obtain ⟨k1, k2, k3, k4, k5⟩ := ok
  refine ⟨_, (pss_cons (ps_if (pt_not (pt_val (pe_calO F_is_name (hr.mono (by decide)) rfl (pa_cons (pv 1) pa_nil)))) (pss_one ps_never) pss_nil)
      (pss_cons (ps_if (pt_not (pt_val (pe_calO F_is_name (hr.mono (by decide)) rfl (pa_cons (pv 2) pa_nil)))) (pss_one ps_never) pss_nil)
      (pss_cons (ps_if (pt_cmpR op_eq (pv 1) (pv 2) (nomark _)) (pss_one ps_never) pss_nil)
      (pss_cons (ps_if (pt_not (pt_val (pe_calO F_is_price (hr.mono (by decide)) rfl (pa_cons (pv 3) pa_nil)))) (pss_one ps_never) pss_nil)
      (pss_cons (ps_fld (pv 0) (pv 1) (by rfl))
      (pss_cons (ps_fld (pv 0) (pv 2) (by rfl))
      (pss_one (ps_fld (pv 0) (pv 3) (by rfl))))))))), ?_⟩
  have l1 := nm_len k1
  have l2 := nm_len k2
  refine qd_if hs (b := false) (et_is (et_not (et_B (K := K) (x_callR (xs_cons (ed_var rfl d1) es_nil) rfl ⟨x, by omega, rfl, rfl⟩))) (by rw [k1]; rfl)) (fun z => nomatch z) fun _ G1 H1 n1 => ?_
  refine qd_if n1.b (b := false) (et_is (et_not (et_B (K := K) (x_callR (xs_cons (ed_var rfl (d2.up n1.a)) es_nil) rfl ⟨y, by omega, rfl, rfl⟩))) (by rw [k2]; rfl)) (fun z => nomatch z) fun _ G2 H2 n2 => ?_
  have n2 := n1.trans n2
  refine qd_if n2.b (b := false) (et_of (x_eqs (K := K) (ed_var rfl (d1.up n2.a)) (ed_var rfl (d2.up n2.a)) (decide_eq_false k3))) (fun z => nomatch z) fun _ G3 H3 n3 => ?_
  have n3 := n2.trans n3
  refine qd_if n3.b (b := false) (et_is (et_not (et_B (K := K) (x_callR (xs_cons (ed_var rfl (d3.up n3.a)) es_nil) rfl ⟨m, rfl, rfl⟩))) (by rw [decide_eq_true k4, decide_eq_true k5]; rfl)) (fun z => nomatch z) fun _ G4 H4 n4 => ?_
  have n4 := n3.trans n4
  have h4 : H4 a = some (.ins CT dx []) := n4.s _ _ ha
  refine ⟨v1, rfl, .ref a, rfl, a, CT, dx, _, rfl, h4, B.cls, B.n1, by decide, ?_⟩
  refine ⟨v2, rfl, .ref a, rfl, a, CT, dx, _, rfl, upd_same, B.cls, B.n2, Nat.le_of_ble_eq_true rfl, ?_⟩
  refine ⟨v3, rfl, .ref a, rfl, a, CT, dx, _, rfl, upd_same, B.cls, B.n3, Nat.le_of_ble_eq_true rfl, ?_⟩
  exact ins_fin (us := [v1, v2, v3]) n4 ha ga k upd_same (fun b hb => by rw [upd_ne hb, upd_ne hb, upd_ne hb]) rfl (.cons (d1.up n4.a) (.cons (d2.up n4.a) (.cons (d3.up n4.a) .nil)))
end
end K05

set_option Elab.async false
set_option linter.all false
set_option maxRecDepth 100000
set_option maxHeartbeats 4000000
namespace K05
open PySem PySem.Spec PyProof.Rows L2 GL
def strL (a b : Str) (m : Int) : List Str := [a, ">", b, " ", ((toString m : String) : Str)]
def strT (a b : Str) (m : Int) : Str := (strL a b m).foldl (· ++ ·) Str.empty
theorem small_int {m : Int} (h0 : 0 ≤ m) (h1 : m ≤ 99) : m.natAbs.log2 < 1920 := by
  by_cases hz : m.natAbs = 0
  · rw [hz]; decide
  · exact (Nat.log2_lt hz).mpr (Nat.lt_of_lt_of_le (show m.natAbs < 2 ^ 7 by omega) (Nat.pow_le_pow_right (by decide) (by decide)))
theorem int_len {m : Int} (h0 : 0 ≤ m) (h1 : m ≤ 99) : ((toString m : String) : Str).length ≤ 2 := PyProof.Rows.toString_length_le h0 (by decide) (Int.lt_of_le_of_lt h1 (by decide))
section
variable {P : Program} {w : World} {K : PySem.W.Frag} {mg : Str → Option Value} {base : Heap} {CT : Addr}
theorem f_start {σ : L2.St} {G : Hp} {te : TE} {a b : Str} {m : Int} (B : TT K CT) (h : Evd K te σ G (tripD CT a b m)) : Evd K (tFld K te "start") σ G (.str a) := ed_fld h B.cls B.n1 0 rfl fun vs e => match vs, e with | [_, _, _], _ => rfl
theorem f_goal {σ : L2.St} {G : Hp} {te : TE} {a b : Str} {m : Int} (B : TT K CT) (h : Evd K te σ G (tripD CT a b m)) : Evd K (tFld K te "goal") σ G (.str b) := ed_fld h B.cls B.n2 1 rfl fun vs e => match vs, e with | [_, _, _], _ => rfl
theorem f_price {σ : L2.St} {G : Hp} {te : TE} {a b : Str} {m : Int} (B : TT K CT) (h : Evd K te σ G (tripD CT a b m)) : Evd K (tFld K te "price") σ G (.int m) := ed_fld h B.cls B.n3 2 rfl fun vs e => match vs, e with | [_, _, _], _ => rfl
def Rstr (C : Addr) (ds : List Da) (d : Da) : Prop := ∃ a b m, TripOk a b m ∧ ds = [tripD C a b m] ∧ d = .str (strT a b m)
def Req (C : Addr) (ds : List Da) (d : Da) : Prop := ∃ a b m a' b' m', ds = [tripD C a b m, tripD C a' b' m'] ∧ d = .bl (true && (decide (a = a') && (decide (b = b') && decide (m = m'))))
theorem sc_str : FnScope ["self"] ["self"] (defScope sT_str) := ⟨rfl, rfl, rfl, by decide +kernel, rfl, by decide +kernel, by decide +kernel⟩
theorem ok_str {f : Addr} {fd : FuncData} (F : Fun K "__str__" "Trip.__str__" sT_str f fd) (T : T5 P w K mg base CT) (B : TT K CT) : FnOk P w K mg base CX0 1 f fd ["self"] (Pr K 1 (Rstr CT)) := by
  refine F.ok sc_str Pr.len fun cdv A outer s H vs Q E hr h => ?_
  obtain ⟨G, ds, d, hs, hl, hd, ⟨a, b, m, ok, rfl, rfl⟩, k⟩ := h
  obtain ⟨v, rfl, dv⟩ := one_of hd
  obtain ⟨k1, k2, k3, k4, k5⟩ := ok
  have l1 := nm_len k1
  have l2 := nm_len k2
  have l3 := int_len k4 k5
  have tr : Evd K (tVar 0) [some v] G (tripD CT a b m) := ed_var rfl dv
  refine ⟨_, (pss_one (ps_ret (pe_joined (PJ.cons (pe_fmt (pe_fld (pv 0) (by rfl))) (PJ.cons pe_str (PJ.cons (pe_fmt (pe_fld (pv 0) (by rfl))) (PJ.cons pe_str (PJ.cons (pe_fmt (pe_fld (pv 0) (by rfl))) PJ.nil)))))))), ?_⟩
  refine ret_d k (Nw.refl hs) (ed_js (.cons (ed_fmtS (f_start B tr) (by omega)) (.cons xc_str (.cons (ed_fmtS (f_goal B tr) (by omega)) (.cons xc_str (.cons (ed_fmtI (f_price B tr) (small_int k4 k5)) .nil))))) ?_) rfl
  have e1 : (">" : Str).length = 1 := by decide
  have e2 : (" " : Str).length = 1 := by decide
  unfold strL
  simp only [List.map_cons, List.map_nil, List.sum_cons, List.sum_nil, e1, e2]
  omega
theorem sc_eq : FnScope ["self", "other"] ["self", "other"] (defScope sT_eq) := ⟨rfl, rfl, rfl, by decide +kernel, rfl, by decide +kernel, by decide +kernel⟩
theorem ok_eq {f : Addr} {fd : FuncData} (F : Fun K "__eq__" "Trip.__eq__" sT_eq f fd) (T : T5 P w K mg base CT) (B : TT K CT) (J : InC K CT) (kt : PySem.W.kitOne K (.ref CT) (.ref CT) = some true) : FnOk P w K mg base CX0 1 f fd ["self", "other"] (Pr K 2 (Req CT)) := by
  refine F.ok sc_eq Pr.len fun cdv A outer s H vs Q E hr h => ?_
  obtain ⟨G, ds, d, hs, hl, hd, ⟨a, b, m, a', b', m', rfl, rfl⟩, k⟩ := h
  obtain ⟨v, u, rfl, dv, du⟩ := two_of hd
  have t0 : Evd K (tVar 0) [some v, some u] G (tripD CT a b m) := ed_var rfl dv
  have t1 : Evd K (tVar 1) [some v, some u] G (tripD CT a' b' m') := ed_var rfl du
  refine ⟨_, (pss_one (ps_ret (pe_and (pe_callB call_isi (by rfl) T.n_isinstance PyProof.Rows.boot_isinstance (pa_cons (pv 1) (pa_cons (pe_own T.m_Trip rfl) pa_nil))) (pe_and (pe_cmpR op_eq (pe_fld (pv 0) (by rfl)) (pe_fld (pv 1) (by rfl)) (nomark _)) (pe_and (pe_cmpR op_eq (pe_fld (pv 0) (by rfl)) (pe_fld (pv 1) (by rfl)) (nomark _)) (pe_one (pe_cmpR op_eq (pe_fld (pv 0) (by rfl)) (pe_fld (pv 1) (by rfl)) (nomark _)))))))), ?_⟩
  exact ret_d k (Nw.refl hs) (x_andV (ed_isC t1 (ed_c fun _ => .obj CT) cls_obj J kt) (x_andV (x_eqs (f_start B t0) (f_start B t1) rfl) (x_andV (x_eqs (f_goal B t0) (f_goal B t1) rfl) (ed_eqI (f_price B t0) (f_price B t1) rfl)))) rfl
theorem sc_read : FnScope ["cls", "text", "words", "wrong", "start", "goal"] ["cls", "text"] (defScope sT_read) := ⟨rfl, rfl, rfl, by decide +kernel, rfl, by decide +kernel, by decide +kernel⟩
def vOf (y : Str) : Int := (PySem.intText? y).getD 0
theorem price_ok : ∀ y ∈ prices, PySem.intText? y = some (vOf y) ∧ 0 ≤ vOf y ∧ vOf y ≤ 99 ∧ y.length ≤ 640 ∧ ((toString (vOf y) : String) : Str) = y := fun y hy => by
  have h : prices.all (fun y => decide (PySem.intText? y = some (vOf y)) && (decide (0 ≤ vOf y) && (decide (vOf y ≤ 99) && (decide (y.length ≤ 640) && decide (((toString (vOf y) : String) : Str) = y))))) = true := by decide +kernel
  have h := List.all_eq_true.mp h y hy
  simp only [Bool.and_eq_true, decide_eq_true_eq] at h
  exact h
/-- what becomes of a text that is read -/
inductive Out where
  | val (d : Da)
  | err (C : Addr) (ns : List Str) (es : List Da)
def errD (CB : Addr) (k : Int) : Out := .err CB ["word", "line"] [.int k, .int 0]
def readW (CT CB : Addr) (z : Str) : Out := match wrongW (Txt.split z " ") with
  | some k => errD CB k
  | none => match Txt.split z " " with
    | x :: y :: _ => match Txt.split x ">" with
      | [a, b] => .val (tripD CT a b (vOf y))
      | _ => errD CB 0
    | _ => errD CB 0
def readD (CT CB : Addr) : Da → Out
  | .str z => readW CT CB z
  | _ => errD CB 0
/-- what may be read: a text that is not long, or what is no text -/
inductive May (CT : Addr) : Da → Prop where
  | str (z : Str) (h : z.length ≤ 800) : May CT (.str z)
  | flat (d : Da) (t : String) (h : tyD d = some t) (k : kitB t "str" = some false) : May CT d
  | trip (a b : Str) (m : Int) : May CT (tripD CT a b m)
def Goes (K : PySem.W.Frag) (G H : Hp) (Q : VK) (E : XK) : Out → Prop
  | .val d => ∀ v G' H', Nw G H G' H' → DR K G' v d → Q v H'
  | .err C ns es => ErrTo K G H E C ns es
def spRead (K : PySem.W.Frag) (CT CB : Addr) : Sp := fun vs H Q E => ∃ G v d, vs = [.ref CT, v] ∧ Same G H ∧ DR K G v d ∧ May CT d ∧ Goes K G H Q E (readD CT CB d)
theorem spRead.len {CT CB : Addr} (vs : List V) (H : Hp) (Q : VK) (E : XK) (h : spRead K CT CB vs H Q E) : vs.length = 2 := by
  obtain ⟨G, v, d, rfl, _⟩ := h
  rfl
theorem way_parts {x : Str} (h : isWay x = true) : ∃ a b, Txt.split x ">" = [a, b] ∧ isNm a = true ∧ isNm b = true ∧ a ≠ b := by
  unfold isWay at h
  match hs : Txt.split x ">" with
  | [a, b] =>
    rw [hs] at h
    have h : (!decide (a = b) && (isNm a && isNm b)) = true := h
    simp only [Bool.and_eq_true, Bool.not_eq_true', decide_eq_false_iff_not] at h
    exact ⟨a, b, rfl, h.2.1, h.2.2, h.1⟩
  | [] => rw [hs] at h; cases h
  | [_] => rw [hs] at h; cases h
  | _ :: _ :: _ :: _ => rw [hs] at h; cases h
theorem wrong_none {ws : List Str} (ne : ws ≠ []) (h : wrongW ws = none) : ∃ x y, ws = [x, y] ∧ isWay x = true ∧ y ∈ prices := by
  match ws, ne, h with
  | [x], _, h =>
    rw [wW1] at h
    split at h <;> cases h
  | x :: y :: r, _, h =>
    rw [wW2] at h
    split at h
    · next h1 =>
      split at h
      · next h2 =>
        split at h
        · next h3 => subst h3; exact ⟨x, y, rfl, h1, List.contains_iff_mem.mp h2⟩
        · cases h
      · cases h
    · cases h
theorem ed_intS {σ : L2.St} {G : Hp} {te : TE} {y : Str} {n : Int} (h : Evd K te σ G (.str y)) (hn : PySem.intText? y = some n) (hz : y.length ≤ 640) : Evd K (tCB (fun xs H Q => ∃ a n, xs = [.str a] ∧ PySem.intText? a = some n ∧ a.length ≤ 640 ∧ Q (.int n) H) (tCons te tNil)) σ G (.int n) := fun H e Q q => h H e _ fun v G1 H1 n1 dv => by
  cases dv
  exact ⟨y, n, rfl, hn, hz, q _ G1 H1 n1 (.int n)⟩
theorem ok_read {f fI fB CB : Addr} {fd fdI fdB : FuncData} (F : Fun K "read" "Trip.read" sT_read f fd) (T : T5 P w K mg base CT) (B : TT K CT) (J : InC K CT) (kf : PySem.W.kitOne K (.ref CT) (.type "str") = some false)
    (F_wrong_trip_word : CalO P w K mg base 3 "wrong_trip_word" ["words"] (Pr K 1 fun ds d => ∃ ys : List Str, ys ≠ [] ∧ (∀ y ∈ ys, y.length ≤ 900) ∧ ds = [.lst (ys.map Da.str)] ∧ d = oI (wrongW ys)))
    (M : Mk K CT fI) (GI : FnOk P w K mg base CX0 4 fI fdI ["self", "start", "goal", "price"] (PiN K CT 3 Rtrip)) (kbI : KBn K fdI ["self", "start", "goal", "price"] 4 [] (fun us _ => us) (fun vs _ => vs))
    (O : OMk K CB fB) (GB : FnOk P w K mg base CX0 5 fB fdB ["self", "line", "word"] (Pk K CB 2 ["word", "line"] gI)) (bB : Binds K fdB ["self", "line", "word"] []) (mB : mg "BadText" = some (.ref CB)) : FnOk P w K mg base (L2.CX P w) 7 f fd ["cls", "text"] (spRead K CT CB) := by
  refine F.okX sc_read spRead.len fun cdv A outer s H vs Q E hr h => ?_
  obtain ⟨G, v, d, rfl, hs, dv, my, k⟩ := h
  refine ⟨_, (pss_cons (ps_if (pt_not (pt_val (pe_callB call_isi (by rfl) T.n_isinstance PyProof.Rows.boot_isinstance (pa_cons (pv 1) (pa_cons (pe_bltn (v := .ty "str") rfl T.n_str (by decide +kernel) rfl) pa_nil))))) (pss_one (ps_raise rfl (takes_of rfl rfl rfl rfl) (pmk_oex O.o O.i O.t GB (hr.mono (by decide)) bB .nil pass0 rfl mB (pa_cons pe_int (pa_cons pe_int pa_nil))))) pss_nil)
      (pss_cons (ps_set (i := 2) sc_read.nd rfl (Or.inl rfl) (pe_split (pv 1) pe_str))
      (pss_cons (ps_set (i := 3) sc_read.nd rfl (Or.inl rfl) (pe_calO F_wrong_trip_word (hr.mono (by decide)) rfl (pa_cons (pv 2) pa_nil)))
      (pss_cons (ps_if (pt_cmpR op_notN1 (pv 3) pe_non (nomark _)) (pss_one (ps_raise rfl (takes_of rfl rfl rfl rfl) (pmk_oex O.o O.i O.t GB (hr.mono (by decide)) bB .nil pass0 rfl mB (pa_cons pe_int (pa_cons (pv 3) pa_nil))))) pss_nil)
      (pss_cons (ps_asg (pe_split (pe_ix ix_list (pv 2) pe_int (fun _ _ => rfl)) pe_str) (pg_tupL rfl (pgs_cons (pg_name (i := 4) sc_read.nd rfl (Or.inl rfl)) (pgs_cons (pg_name (i := 5) sc_read.nd rfl (Or.inl rfl)) pgs_nil))))
      (pss_one (ps_ret (pe_makeV (i := 0) M GI (hr.mono (by decide)) rfl (Or.inl rfl) kbI pass0 (pa_cons (pv 4) (pa_cons (pv 5) (pa_cons (pe_callTy call_int_str (by rfl) T.n_int (by decide +kernel) (pa_cons (pe_ix ix_list (pv 2) pe_int (fun _ _ => rfl)) pa_nil)) pa_nil))))))))))), ?_⟩
  have bad : ∀ {G1 H1 : Hp} {σ : L2.St} {te tf : TE} {i : Int}, Nw G H G1 H1 → Evd K te σ G1 (.int 0) → Evd K tf σ G1 (.int i) → readD CT CB d = errD CB i → tMkO CB (Pk K CB 2 ["word", "line"] gI) [] (tCons te (tCons tf tNil)) σ H1 (fun cls d H' => E cls d H') := fun {G1 H1 σ te tf i} n1 e0 e1 e2 => by
    rw [e2] at k
    exact rz_mk n1.b (xs_cons e0 (xs_cons e1 es_nil)) rfl (by decide) (gI2 rfl rfl) (ErrTo.of k n1)
  cases my with
  | flat d t ht hk => exact qd_if (b := true) hs (et_not (b := false) (et_B (K := K) (ed_isi (ed_var rfl dv) ht hk))) (fun _ G1 H1 n1 => bad n1 xc_int xc_int (by cases d <;> first | rfl | (simp only [tyD] at ht; cases ht; exact absurd hk (by decide +kernel)))) (fun z => nomatch z)
  | trip a b m => exact qd_if (b := true) hs (et_not (b := false) (et_B (K := K) (ed_isC (ed_var rfl dv) (ed_c fun _ => .ty "str") cls_ty J kf))) (fun _ G1 H1 n1 => bad n1 xc_int xc_int rfl) (fun z => nomatch z)
  | str z hz =>
    refine qd_if hs (b := false) (et_not (b := true) (et_B (K := K) (ed_isi (ed_var rfl dv) rfl (by decide +kernel)))) (fun z => nomatch z) fun _ G1 H1 n1 => ?_
    have dv := dv.up n1.a
    refine qd_asg n1.b (ed_split (K := K) (ed_var rfl dv) xc_str (by decide) (by omega)) fun w2 G2 H2 n2 d2 => ?_
    have n2 := n1.trans n2
    have pos := split_pos z " "
    have pl : ∀ y ∈ Txt.split z " ", y.length ≤ z.length := fun y hy => piece_le hy (by decide)
    have ne : Txt.split z " " ≠ [] := fun e => by rw [e] at pos; exact absurd pos (by decide)
    refine qd_asg n2.b (x_callR (K := K) (xs_cons (ed_var rfl d2) es_nil) rfl ⟨Txt.split z " ", ne, fun y hy => by have := pl y hy; omega, rfl, rfl⟩) fun w3 G3 H3 n3 d3 => ?_
    have d2 := d2.up n3.a
    have n3 := n2.trans n3
    cases hw : wrongW (Txt.split z " ") with
    | some i =>
      rw [hw] at d3
      have e3 : readD CT CB (.str z) = errD CB i := by
        show readW CT CB z = _
        unfold readW
        rw [hw]
      cases d3
      exact st_yes ((ans_notN (val_var (i := 3) (v := .int i) rfl) rfl)) (bad n3 xc_int (ed_var (i := 3) rfl (.int i)) e3)
    | none =>
      rw [hw] at d3
      cases d3
      obtain ⟨x, y, exy, hx, hy⟩ := wrong_none ne hw
      obtain ⟨a, b, eab, na, nb, hab⟩ := way_parts hx
      obtain ⟨p1, p2, p3, p4, p5⟩ := price_ok y hy
      have e3 : readD CT CB (.str z) = .val (tripD CT a b (vOf y)) := by
        show readW CT CB z = _
        unfold readW
        rw [hw, exy]
        show (match Txt.split x ">" with | [a, b] => Out.val (tripD CT a b (vOf y)) | _ => errD CB 0) = _
        rw [eab]
      rw [e3] at k
      rw [exy] at d2 pl
      have lx : x.length ≤ z.length := pl x (by simp)
      refine st_seq (st_no (ans_notN (val_var (i := 3) (v := .non) rfl) rfl) (st_next ?_))
      have ev : Evd K _ [some (.ref CT), some v, some w2, some .non, none, none] G3 (.lst ((Txt.split x ">").map Da.str)) := ed_split (ed_ixL (i := 0) (ed_var (i := 2) rfl d2) (fun _ _ => xc_int) rfl) xc_str (by decide) (by omega)
      refine ev H3 n3.b _ fun w4 G4 H4 n4 d4 => ?_
      rw [eab] at d4
      cases d4 with
      | lst q1 q2 =>
        obtain ⟨va, vb, rfl, da, db⟩ := two_of q2
        cases da
        cases db
        refine ⟨_, _, rfl, SqL.of (n4.b _ _ q1), rfl, _, _, rfl, _, _, rfl, rfl, ?_⟩
        have d2 := d2.up n4.a
        have n4 := n3.trans n4
        exact ⟨rfl, x_mkN (xs_cons (ed_var rfl (.str a)) (xs_cons (ed_var rfl (.str b)) (xs_cons (ed_intS (ed_ixL (i := 1) (ed_var (i := 2) rfl d2) (fun _ _ => xc_int) rfl) p1 p4) es_nil))) es_nil rfl rfl [.str a, .str b, .int (vOf y)] rfl (fun a H' vs ws r1 r2 => ⟨vs, rfl, r1⟩) ⟨a, b, vOf y, ⟨na, nb, hab, p2, p3⟩, rfl, rfl, rfl⟩ _ n4.b _ fun v G5 H5 n5 d5 => k v G5 H5 (n4.trans n5) d5⟩

end
end K05

set_option Elab.async false
set_option linter.all false
set_option maxRecDepth 100000
set_option maxHeartbeats 4000000
namespace K05
open PySem PySem.Spec PyProof.Rows L2 GL
/-- what is made of an error that is heard -/
def EHeard (K : PySem.W.Frag) (CP CB : Addr) (Q : VK) : XK := fun cls d H' => ∃ (dx : Addr) (x y : V), cls = .ref CB ∧ d = some dx ∧ PySem.W.exmOne K (.ref CB) (.ref CP) = some true ∧ OGet K CB ∧ H' dx = some (.xd (([("word" : Str), "line"] : List Str).zip [y, x])) ∧ PySem.W.findIn K (.ref CB) "line" = some none ∧ PySem.W.findIn K (.ref CB) "word" = some none ∧ PySem.W.kitOne K (.ref CB) (.ref CB) = some true ∧
    ∀ a p, H' a = none → upd H' a (exk a CB d) p = none → Q (.ref p) (upd (upd H' a (exk a CB d)) p (.tup [x, y]))
/-- what the law's def that hears makes of the reading of what it calls -/
def THeard (K : PySem.W.Frag) (CP CB : Addr) : (XK → Hp → VK → Prop) → Hp → VK → Prop := fun tl H Q => ∀ p0, H p0 = none →
  ∀ Q' : VK, (∀ v H', (∀ p, H' p = none → Q (.ref p) (upd H' p (.lst [v]))) → Q' v H') → tl (EHeard K CP CB Q) (upd H p0 (.tup [.non, .non])) Q'
theorem takes_len {X : Cx} {W : WX} {n : Nat} (tk : Takes X W) (hn : X.N.length = n) : Takes X (fun cls d σ H => σ.length = n → W cls d σ H) := fun u s' ⟨a, B, sI, pins, σ, H, cls, d, e, I, nb, up, sky, na, os, ag, w⟩ =>
  tk u s' ⟨a, B, sI, pins, σ, H, cls, d, e, I, nb, up, sky, na, os, ag, w (I.len.trans hn)⟩
theorem sc_heard : FnScope ["_law_ask", "_law_caught", "_law_found", "error"] ["_law_ask"] (defScope s__law_heard) := ⟨rfl, rfl, rfl, by decide +kernel, rfl, by decide +kernel, by decide +kernel⟩
theorem heard_gives {X : Cx} {K : PySem.W.Frag} {g CP CB : Addr} {cdg : Value} {q : Str} (hK : X.K = K) (mP : X.mg "PullError" = some (.ref CP)) (mB : X.mg "BadText" = some (.ref CB)) (mi : X.mg "isinstance" = none) :
    LamX.GivesTo X ["_law_ask", "_law_caught", "_law_found", "error"] "_law_heard" (defScope s__law_heard) g cdg (defBody s__law_heard) "_law_ask" q (THeard K CP CB) := by
  intro f c' s H Q tl act hc h
  refine ⟨_, pss_cons (ps_asg (pe_tup (pa_cons pe_non (pa_cons pe_non pa_nil))) (pg_tup rfl (pgs_cons (pg_name (i := 1) sc_heard.nd rfl (Or.inl rfl)) (pgs_cons (pg_name (i := 2) sc_heard.nd rfl (Or.inl rfl)) pgs_nil))))
    (pss_cons (ps_try_kept (i := 3) (c := .ref CP) (tb := fun W D σ H => ∃ Ech : XK, (∀ cls d (σ' : L2.St) H', σ'.length = 4 → Ech cls d H' → W cls d σ' H') ∧ σ[0]? = some (some (.ref f)) ∧ H c' = some (LamX.CodeO c' q) ∧ tl Ech H (fun v H1 => D.nx (σ.set 2 (some v)) H1)) (ts := fun a cls d => tAsg (tVar 3) (gName 1)) rfl rfl rfl sc_heard.nd rfl rfl ⟨rfl, by decide, .inl mP⟩ LamX.takes0
      (fun W pn xe tk _ => ⟨fun pins s' σ H' D I ⟨Ech, hW, h1, h2, h3⟩ => (pss_one (ps_set (i := 2) sc_heard.nd rfl (Or.inl rfl) (act _ pn xe Ech _ _ (takes_len tk rfl) fun cls d σ' H' e l => hW cls d σ' H' l e))).run pins s' σ H' D I ⟨h1, h2, h3⟩⟩)
      (fun a oe cls d pn _ _ => pss_one (ps_set (i := 1) sc_heard.nd rfl (Or.inl rfl) (pv 3))))
    (pss_cons (ps_if (pt_cmpR op_isN1 (pv 1) pe_non (nomark _)) (pss_one (ps_ret (pe_lst (pa_cons (pv 2) pa_nil)))) pss_nil)
    (pss_one (ps_ret (pe_ifExp (pt_val (pe_isK (K := K) hK mi (by rfl) (pa_cons (pv 1) (pa_cons (pe_own mB rfl) pa_nil)))) (pe_tup (pa_cons (pe_ofk (K := K) hK (pv 1)) (pa_cons (pe_ofk (K := K) hK (pv 1)) pa_nil))) (pe_tup (pa_cons pe_str (pa_cons pe_non pa_nil)))))))), ?_⟩
  refine ⟨by show 2 ≤ sizeLine; decide, fun p0 hp0 => ⟨p0, [.non, .non], rfl, SqT.of upd_same, rfl, .non, [.non], rfl, .non, [], rfl, rfl, ?_⟩⟩
  have nc : c' ≠ p0 := ne_of_none hc hp0
  refine ⟨EHeard K CP CB Q, fun cls d σ' H' hl z => ?_, rfl, by rw [upd_ne nc]; exact hc, ?_⟩
  · obtain ⟨dx, x, y, rfl, rfl, em, og, hx, n1, n2, kt, k⟩ := z
    match σ', hl with
    | [x0, x1, x2, x3], _ =>
      refine ⟨true, by rw [show (cxOf C8.CX0 X.prog X.w X.K X.mg X.base ["_law_ask", "_law_caught", "_law_found", "error"] "_law_heard" (defScope s__law_heard) g cdg X.A X.stack s H C8.E0).nox.K = K from hK]; exact em, fun _ => ⟨CB, rfl, fun a ha => ⟨.ref a, rfl, fun na => ?_⟩⟩, fun z => nomatch z⟩
      have hx2 : upd H' a (exk a CB (some dx)) dx = some (.xd (([("word" : Str), "line"] : List Str).zip [y, x])) := by rw [upd_ne (ne_of_none hx ha)]; exact hx
      refine st_seq (st_no (ans_isN (val_var (i := 1) (v := .ref a) rfl) rfl) (st_next ?_))
      refine ⟨.ref a, rfl, a, CB, dx, _, .ref CB, .ref CB, true, rfl, .own CB, og, upd_same, hx2, kt, true, rfl, ?_⟩
      exact ⟨.ref a, rfl, a, CB, dx, _, x, rfl, og, n1, upd_same, hx2, rfl, .ref a, rfl, a, CB, dx, _, y, rfl, og, n2, upd_same, hx2, rfl, by show 2 ≤ sizeLine; decide, fun p hp => k a p ha hp⟩
  · refine h p0 hp0 _ fun v H' k => ?_
    refine st_seq (st_yes (ans_isN (val_var (i := 1) (v := .non) rfl) rfl) ?_)
    exact ⟨v, rfl, by show 1 ≤ sizeLine; decide, k⟩
end K05

set_option Elab.async false
set_option linter.all false
set_option maxRecDepth 100000
set_option maxHeartbeats 4000000
namespace GL
open PySem PySem.Spec PyProof.Rows L2
open Classical in
/-- data without tables of code objects -/
noncomputable def clean (G : Hp) : Hp := fun b => if ∃ ps, G b = some (.tbl ps) then none else G b
theorem clean_at {G : Hp} {b : Addr} {o : HO} (h : G b = some o) (n : ∀ ps, o ≠ .tbl ps) : clean G b = some o := by
  unfold clean
  rw [if_neg (fun ⟨ps, e⟩ => n ps (by rw [h] at e; exact Option.some.inj e))]
  exact h
theorem of_clean {G : Hp} {b : Addr} {o : HO} (h : clean G b = some o) : G b = some o ∧ ∀ ps, o ≠ .tbl ps := by
  unfold clean at h
  split at h
  · cases h
  · next q => exact ⟨h, fun ps e => q ⟨ps, by rw [h, e]⟩⟩
theorem clean_none {G : Hp} {b : Addr} (h : G b = none) : clean G b = none := by
  cases q : clean G b with
  | none => rfl
  | some o => rw [(of_clean q).1] at h; cases h
theorem clean_same (G : Hp) : Same (clean G) G := fun b o h => (of_clean h).1
section
variable {K : PySem.W.Frag} {G : Hp}
mutual
theorem DR.cl : ∀ (d : Da) {v : V}, DR K G v d → DR K (clean G) v d
  | .non, _, h => by cases h; exact .non
  | .bl b, _, h => by cases h; exact .bl b
  | .int i, _, h => by cases h; exact .int i
  | .str x, _, h => by cases h; exact .str x
  | .ty n, _, h => by cases h; exact .ty n
  | .obj a, _, h => by cases h; exact .obj a
  | .lst ds, _, h => by cases h with | lst h1 h2 => exact .lst (clean_at h1 fun _ z => nomatch z) (DRs.cl ds h2)
  | .tup ds, _, h => by cases h with | tup h1 h2 => exact .tup (clean_at h1 fun _ z => nomatch z) (DRs.cl ds h2)
  | .dct ks ds, _, h => by cases h with | dct h1 h2 h3 => exact .dct (clean_at h1 fun _ z => nomatch z) h2 (DRs.cl ds h3)
  | .ins C ns ds, _, h => by cases h with | ins h1 h2 h3 => exact .ins (clean_at h1 fun _ z => nomatch z) h2 (DRs.cl ds h3)
  | .exc C ns ds, _, h => by
    cases h with
    | exc h1 h2 h3 h4 => exact .exc (clean_at h1 fun _ => exo_tbl) (clean_at h2 fun _ z => by unfold exd at z; cases z) h3 (DRs.cl ds h4)
    | exc0 h1 => exact .exc0 (clean_at h1 fun _ => exo_tbl)
theorem DRs.cl : ∀ (ds : List Da) {vs : List V}, DRs K G vs ds → DRs K (clean G) vs ds
  | [], _, h => by cases h; exact .nil
  | d :: ds, _, h => by cases h with | cons h1 h2 => exact .cons (DR.cl d h1) (DRs.cl ds h2)
end
end
/-- a promise by position, from one by names -/
theorem fnr_of {P : Program} {w : World} {K : PySem.W.Frag} {mg : Str → Option Value} {base : Heap} {CX : CXT} {k : Nat} {f : Addr} {fd : FuncData} {ps : List Str} {sp : Sp} (F : FnOk P w K mg base CX k f fd ps sp) (hb : Binds K fd ps []) : FnR P w K mg base CX k f sp :=
  fun A outer s H us vs Q E hr e0 r h => by
    have kin : K.In s.heap := e0.mod.kin.keeps fun b o z => (e0.bs b o z).1
    have hl : us.length = ps.length := r.length.symm.trans (F.len _ _ _ _ h)
    have bd := hb s us kin (by simpa using hl)
    rw [List.append_nil] at bd
    exact F.run A outer s H ⟨us, []⟩ us vs Q E hr e0 bd r h
/-- what a call that may make a lambda does to the heap -/
structure NwT (T : List (Addr × Str)) (G H G' H' : Hp) : Prop where
  x : LamX.ExtN H H'
  a : Same (clean G) G'
  b : Same G' H'
  t : LamX.Tabs T H'
  n : ∀ p o, H p = some o → (∀ ps, o ≠ .tbl ps) → G p = none → G' p = none
end GL
namespace K05
open PySem PySem.Spec PyProof.Rows L2 GL
def outD : Out → Da
  | .val d => .lst [d]
  | .err _ _ es => .tup es.reverse
theorem readD_ok {CT CB : Addr} : ∀ d, (∃ e, readD CT CB d = .val e) ∨ ∃ k, readD CT CB d = errD CB k := fun d => by
  cases d with
  | str z =>
    show (∃ e, readW CT CB z = .val e) ∨ ∃ k, readW CT CB z = errD CB k
    unfold readW
    split
    · exact .inr ⟨_, rfl⟩
    · split
      · split
        · exact .inl ⟨_, rfl⟩
        · exact .inr ⟨_, rfl⟩
      · exact .inr ⟨_, rfl⟩
  | _ => exact .inr ⟨0, rfl⟩
section
variable {K : PySem.W.Frag} {CT CP CB : Addr} {σ : L2.St} {G H : Hp} {v : V} {d : Da} {i : Nat} {T : List (Addr × Str)} {Q : VK}
theorem heard_d (s : Same G H) (hT : LamX.Tabs T H) (hv : σ[i]? = some (some v)) (dv : DR K G v d) (my : May CT d) (em : PySem.W.exmOne K (.ref CB) (.ref CP) = some true) (og : OGet K CB) (n1 : PySem.W.findIn K (.ref CB) "line" = some none) (n2 : PySem.W.findIn K (.ref CB) "word" = some none) (kt : PySem.W.kitOne K (.ref CB) (.ref CB) = some true)
    (q : ∀ v G' H', NwT T G H G' H' → DR K G' v (outD (readD CT CB d)) → Q v H') : LamX.tLam T (THeard K CP CB) (fun E => ClX.tCMeth CT (spRead K CT CB) E (tC (.ref CT)) (tCons (tVar i) tNil)) σ H Q := by
  refine ⟨hT, fun H1 ex1 hT1 p0 hp0 Q' hQ' => ⟨rfl, v, hv, ?_⟩⟩
  have s1 : Same (clean G) H1 := fun b o z => ex1 b o (s b o (of_clean z).1) (of_clean z).2
  have s2 : Same (clean G) (upd H1 p0 (.tup [.non, .non])) := same_upd s1 (s1.free hp0)
  have same12 : Same H1 (upd H1 p0 (.tup [.non, .non])) := same_upd (Same.refl _) hp0
  -- how a heap behind it stands to the first one
  have fin : ∀ {G' H' : Hp}, Nw (clean G) (upd H1 p0 (.tup [.non, .non])) G' H' → NwT T G H G' H' := fun {G' H'} n =>
    ⟨ex1.trans (.of fun b o z => n.s _ _ (same12 b o z)), n.a, n.b, hT1.ext fun b o z => n.s _ _ (same12 b o z), fun p o z nt g => n.n p o (same12 _ _ (ex1 p o z nt)) (clean_none g)⟩
  refine ⟨clean G, v, d, rfl, s2, DR.cl d dv, my, ?_⟩
  rcases readD_ok (CT := CT) (CB := CB) d with ⟨e, he⟩ | ⟨k, he⟩
  · rw [he] at q ⊢
    refine fun w G' H' n dw => hQ' w H' fun p hp => ?_
    have m := Nw.new (o := .lst [w]) n.b hp
    exact q (.ref p) _ _ (fin (n.trans m)) (.lst upd_same (.cons (dw.up m.a) .nil))
  · rw [he] at q ⊢
    intro G' H' dx us n hx hl du
    obtain ⟨y, x, rfl, dy, d0⟩ := two_of du
    refine ⟨dx, x, y, rfl, rfl, em, og, hx, n1, n2, kt, fun a p ha hp => ?_⟩
    have m1 : Nw G' H' G' (upd H' a (exk a CB (some dx))) := ⟨same_upd (Same.refl _) ha, Same.refl _, same_upd n.b (n.b.free ha), fun p o z g => g⟩
    have m2 := Nw.new (o := .tup [x, y]) m1.b hp
    have up := m1.a.trans m2.a
    exact q (.ref p) _ _ (fin ((n.trans m1).trans m2)) (.tup upd_same (.cons (d0.up up) (.cons (dy.up up) .nil)))
end
/-! the call itself, in any frame whose code has its table -/
section
variable {X : Cx} {CT CP CB c PT : Addr} {T : List (Addr × Str)} {params : Arguments} {scope : Scope} {p lpos pos : Pos}
structure TH (P : Program) (w : World) (K : PySem.W.Frag) (mg : Str → Option Value) (base : Heap) (CT CP CB : Addr) : Prop where
  mP : mg "PullError" = some (.ref CP)
  mB : mg "BadText" = some (.ref CB)
  mT : mg "Trip" = some (.ref CT)
  mi : mg "isinstance" = none
  rd : ∃ mc p fR fdR, ClX.CRead K CT mc ∧ ClX.CMet K CT mc "read" p fR ∧ FnOk P w K mg base (L2.CX P w) 7 fR fdR ["cls", "text"] (spRead K CT CB) ∧ Binds K fdR ["cls", "text"] []
  he : ∃ g fd, mg "_law_heard" = some (.ref g) ∧ Fun K "_law_heard" "_law_heard" s__law_heard g fd ∧ Binds K fd ["_law_ask"] []
theorem pe_heard {body : Expr} {t : XK → TE} (Z : TH X.prog X.w X.K X.mg X.base CT CP CB) (hg : Gl X "_law_heard") (TB : LamX.TabB X.base X.mg c PT) (hcode : X.env.code = .ref c) (hmT : (PT, X.env.qual ++ "<lambda>") ∈ T) (hu : ∀ p ∈ T, p.1 = PT → p.2 = X.env.qual ++ "<lambda>") (hr : Room 9 X.A) (L : LamX.LamS X.env.scope scope) (hdef : defaultsOf params X.env = ([], []))
    (hbind : ∀ (q : Str) (cl : List (Str × Addr)) (pm cv ctv : Value), bindArgs (PySem.W.kla_fn "<lambda>" q params body scope cl pm cv ctv) ⟨[], []⟩ = pure [])
    (hbody : ∀ (A : Around) (outer : List Env) (s : Shared) (H : Hp) (E : XK) (f c' : Addr), Room 7 (A.deeper (LamX.lamEnv X scope s.heap.objs.size f c')) → PE (LamX.lamCx X A outer s H E scope f c') body (t E)) :
    PE X (.Call (.Name "_law_heard" p) [.Lambda params body scope lpos] [] pos) (LamX.tLam T (THeard X.K CP CB) t) := by
  obtain ⟨g, fd, mg, FH, bH⟩ := Z.he
  obtain ⟨oc, od, kV, doc, pm, an, cdv, ct, osl, rfl, lk, hcd'⟩ := FH.ex
  exact LamX.pe_lamcall (k := 7) (c := c) (P := PT) hg mg FH.kp lk hcd' bH sc_heard rfl (Or.inl rfl) (heard_gives rfl Z.mP Z.mB Z.mi) TB hcode hmT hu hr L hdef hbind hbody
end
end K05

set_option Elab.async false
set_option linter.all false
set_option autoImplicit false
set_option maxRecDepth 100000
set_option maxHeartbeats 2000000
namespace GL
open PySem PySem.Spec PyProof.Rows L2
/-! == and != of data without dicts, whatever its texts' signs -/
def rEqP (K : PySem.W.Frag) : R2 := fun x y H Q => ∃ d e, Dp K H x d ∧ Dp K H y e ∧ d.plain = true ∧ e.plain = true ∧ d.depth ≤ 60 ∧ Q (.bl (PyData.eqv d e)) H
def rNeP (K : PySem.W.Frag) : R2 := fun x y H Q => ∃ d e, Dp K H x d ∧ Dp K H y e ∧ d.plain = true ∧ e.plain = true ∧ d.depth ≤ 60 ∧ Q (.bl (!PyData.eqv d e)) H
section
variable {X : Cx} {K : PySem.W.Frag} {a b : Expr} {ta tb : TE} {pos : Pos}
theorem pe_eqP (hK : X.K = K) (hu : X.A.units + 64 < cLine) (ha : PE X a ta) (hb : PE X b tb) : PE X (.Compare a [.Eq] [b] pos) (tOp (rEqP K) ta tb) := by
  subst hK
  refine pe_cmpR (fun pins s σ H x y v u Q I rx ry ⟨d, e, hd, he, pd, pe, dp, q⟩ => ?_) ha hb (nomark _)
  obtain ⟨as, r1⟩ := Dp.reads I d x v hd rx
  obtain ⟨bs, r2⟩ := Dp.reads I e y u he ry
  exact SeqAt.eq_plain r1 r2 pd pe (by have := Nat.min_le_left d.depth e.depth; omega) ⟨.bl _, H, I, rfl, q⟩
theorem pt_neP (hK : X.K = K) (hu : X.A.units + 64 < cLine) (ha : PE X a ta) (hb : PE X b tb) : PT X (.Compare a [.NotEq] [b] pos) (tTest (tOp (rNeP K) ta tb)) := by
  subst hK
  refine pt_cmpR (fun pins s σ H x y v u Q I rx ry ⟨d, e, hd, he, pd, pe, dp, q⟩ => ?_) ha hb (nomark _)
  obtain ⟨as, r1⟩ := Dp.reads I d x v hd rx
  obtain ⟨bs, r2⟩ := Dp.reads I e y u he ry
  exact SeqAt.ne_plain r1 r2 pd pe (by have := Nat.min_le_left d.depth e.depth; omega) ⟨.bl _, H, I, rfl, q⟩
end
section
variable {K : PySem.W.Frag} {σ : L2.St} {G : Hp} {ta tb : TE} {d1 d2 : Da} {b : Bool}
theorem x_eqP {p q : PyData} (ha : Evd K ta σ G d1) (hb : Evd K tb σ G d2) (h1 : d1.toP = some p) (h2 : d2.toP = some q) (n1 : p.hasDict = false) (n2 : q.hasDict = false) (s1 : p.plain = true) (s2 : q.plain = true) (dp : p.depth ≤ 60) (hz : PyData.eqv p q = b) : Evd K (tOp (rEqP K) ta tb) σ G (.bl b) :=
  ed_two ha (fun _ s => hb.up s) fun x y G' H' _ e dx dy Q k => ⟨p, q, dp_of p (DR.dq d1 (dx.up e) h1) n1, dp_of q (DR.dq d2 (dy.up e) h2) n2, s1, s2, dp, by rw [hz]; exact k _ G' H' (Nw.refl e) (.bl b)⟩
theorem x_neP {p q : PyData} (ha : Evd K ta σ G d1) (hb : Evd K tb σ G d2) (h1 : d1.toP = some p) (h2 : d2.toP = some q) (n1 : p.hasDict = false) (n2 : q.hasDict = false) (s1 : p.plain = true) (s2 : q.plain = true) (dp : p.depth ≤ 60) (hz : (!PyData.eqv p q) = b) : Evd K (tOp (rNeP K) ta tb) σ G (.bl b) :=
  ed_two ha (fun _ s => hb.up s) fun x y G' H' _ e dx dy Q k => ⟨p, q, dp_of p (DR.dq d1 (dx.up e) h1) n1, dp_of q (DR.dq d2 (dy.up e) h2) n2, s1, s2, dp, by rw [hz]; exact k _ G' H' (Nw.refl e) (.bl b)⟩
end
/-! texts as data: what is asked of them -/
theorem toPs_strs : ∀ zs : List Str, Da.toPs (zs.map Da.str) = some (zs.map PyData.str)
  | [] => rfl
  | z :: zs => by
    rw [List.map_cons, List.map_cons]
    simp only [Da.toPs, Da.toP, Option.bind_some, toPs_strs zs, Option.map_some]
theorem plain_strs : ∀ zs : List Str, PyData.plainAll (zs.map PyData.str) = true
  | [] => rfl
  | z :: zs => by simp only [List.map_cons, PyData.plainAll, PyData.plain, plain_strs zs, Bool.and_self]
theorem nodict_strs : ∀ zs : List Str, PyData.hasDictAll (zs.map PyData.str) = false
  | [] => rfl
  | z :: zs => by simp only [List.map_cons, PyData.hasDictAll, PyData.hasDict, nodict_strs zs, Bool.or_self]
theorem depth_strs : ∀ zs : List Str, PyData.depthAll (zs.map PyData.str) ≤ 1
  | [] => Nat.zero_le _
  | z :: zs => by
    have := depth_strs zs
    simp only [List.map_cons, PyData.depthAll, PyData.depth]
    omega
/-- a list of texts == [] -/
theorem x_nilS {K : PySem.W.Frag} {σ : L2.St} {G : Hp} {ta tb : TE} {zs : List Str} (ha : Evd K ta σ G (.lst (zs.map Da.str))) (hb : Evd K tb σ G (.lst [])) : Evd K (tOp (rEqP K) ta tb) σ G (.bl zs.isEmpty) :=
  x_eqP (p := .list (zs.map PyData.str)) (q := .list []) ha hb (by simp only [Da.toP, toPs_strs, Option.map_some]) rfl (by simp only [PyData.hasDict, nodict_strs]) rfl (by simp only [PyData.plain, plain_strs]) rfl (by have := depth_strs zs; simp only [PyData.depth]; omega) (by
    cases zs with
    | nil => decide
    | cons z zs => first | rfl | simp [PyData.eqv, PyData.eqvAll])
/-! text[::-1] -/
def revT (z : Str) : Str := Txt.sliceBy z none none (-1, 0)
theorem revT_len (z : Str) : (revT z).length ≤ z.length := Txt.sliceBy_le z none none (-1, 0) (by decide)
def tRevS (te : TE) : TE := fun σ H Q => te σ H fun x H1 => ∃ z, x = .str z ∧ z.length ≤ sizeLine ∧ Q (.str (revT z)) H1
theorem pe_revS {X : Cx} {e : Expr} {te : TE} {k : Nat} {p1 p2 p3 pos : Pos} (he : PE X e te) : PE X (.Subscript e (.Slice none none (some (.UnaryOp .USub (.Constant (.int 1) k p1) p2)) p3) pos) (tRevS te) := by
  refine ⟨fun pins s σ H Q I h => Subscript_ (thn (he.run pins s σ H _ I h) fun v s1 ⟨x, H1, I1, r1, z, ex, hz, q⟩ => ?_)⟩
  subst ex
  obtain ⟨t, rfl⟩ := r1
  have st : PO X (some (.UnaryOp .USub (.Constant (.int 1) k p1) p2)) (tPart (tUn (rU fun i => .int (-i)) (tC (.int 1)))) := po_some (pe_un un_neg pe_int)
  refine wpAny_Slice (thn (po_none.run pins s1 σ H1 (fun o H2 => o = none ∧ H2 = H1) I1 ⟨rfl, rfl⟩) fun vl s2 ⟨l, H2, I2, pl, el, e2⟩ => ?_)
  subst el e2
  refine thn (po_none.run pins s2 σ H2 (fun o H3 => o = none ∧ H3 = H2) I2 ⟨rfl, rfl⟩) fun vu s3 ⟨u, H3, I3, pu, eu, e3⟩ => ?_
  subst eu e3
  refine thn (st.run pins s3 σ H3 (fun o H4 => o = some (-1) ∧ H4 = H3) I3 ⟨1, rfl, -1, rfl, rfl, rfl⟩) fun vs s4 ⟨o, H4, I4, ps, eo, e4⟩ => ?_
  subst eo e4
  have I5 : Inv X pins σ H4 { s4 with heap := s4.heap.push { cls := .type "slice", data := .fields #[vl, vu, vs] } } := I4.kept (t' := s4.toks) fun b ob q => Heap.get?_push_of_some _ q
  obtain ⟨l1, rfl, e1⟩ := IsPart.raw pl
  obtain ⟨u1, rfl, e2⟩ := IsPart.raw pu
  obtain ⟨k1, rfl, e3⟩ := IsPart.raw ps
  cases l1 with
  | some _ => cases e1
  | none => cases u1 with
    | some _ => cases e2
    | none => cases k1 with
      | none => cases e3
      | some kt =>
        obtain ⟨ki, tk⟩ := kt
        obtain rfl : ki = -1 := Option.some.inj e3
        refine tail_any (ops := [.ref s4.heap.objs.size, .str z t]) (typeIs_str _ _ _) F.slot_str_getitem.lookup ?_ (by with_unfolding_all rfl)
        refine wpAny_getItem_str_slice (l := none) (u := none) (st := some (-1, tk)) ⟨_, Heap.get?_push_size _ rfl, rfl, rfl⟩ rfl ?_
        exact ⟨Nat.le_trans (revT_len z) hz, .str (revT z), H4, I5.tok _, ⟨_, rfl⟩, q⟩
theorem ed_revS {K : PySem.W.Frag} {σ : L2.St} {G : Hp} {te : TE} {z : Str} (h : Evd K te σ G (.str z)) (hz : z.length ≤ 1000) : Evd K (tRevS te) σ G (.str (revT z)) := fun H e Q q => h H e _ fun v G1 H1 n1 dv => by
  cases dv
  exact ⟨z, rfl, sizeK hz, q _ G1 H1 n1 (.str _)⟩
end GL
namespace GL
open PySem PySem.Spec PyProof.Rows L2
theorem ed_gtL {K : PySem.W.Frag} {σ : L2.St} {G : Hp} {ta tb : TE} {i j : Int} {b : Bool} (ha : Evd K ta σ G (.int i)) (hb : Evd K tb σ G (.int j)) (hz : decide (i < j) = b) : Evd K (tOp (rI0 fun i j => .bl (decide (i < j))) ta tb) σ G (.bl b) := ed_two ha (fun _ s => hb.up s) fun v w G' H' _ e dv dw Q k => by
  cases dv; cases dw
  subst hz
  exact ⟨i, j, rfl, rfl, k _ G' H' (Nw.refl e) (.bl _)⟩
end GL

set_option Elab.async false
set_option linter.all false
set_option maxRecDepth 100000
set_option maxHeartbeats 2000000
namespace GL
open PySem PySem.Spec PyProof.Rows L2
/-! the pen of a law: a list of the cells (a list of ints at c), the number of the next cell, what is left of a great one -/
structure PenAt (H : Hp) (P c : Addr) (ns : List Int) (k g : Int) : Prop where
  hp : H P = some (.lst [.ref c, .int k, .int g])
  hc : H c = some (.lst (ns.map V.int))
  ne : c ≠ P
  k0 : 0 ≤ k
  g0 : 0 ≤ g
/-- all stays but what stands at P -/
def But (P : Addr) (H H' : Hp) : Prop := ∀ b o, b ≠ P → H b = some o → H' b = some o
theorem But.refl (P : Addr) (H : Hp) : But P H H := fun _ _ _ e => e
theorem But.trans {P : Addr} {H H1 H2 : Hp} (x : But P H H1) (y : But P H1 H2) : But P H H2 := fun b o n e => y b o n (x b o n e)
theorem Same.but {P : Addr} {H H' : Hp} (x : Same H H') : But P H H' := fun b o _ e => x b o e
theorem But.same {P : Addr} {G H H' : Hp} (x : But P H H') (s : Same G H) (g : G P = none) : Same G H' := fun b o e => x b o (ne_of_none e g) (s b o e)
theorem But.upd {P : Addr} {H : Hp} {o : HO} : But P H (upd H P o) := fun b u n e => by rw [upd_ne n]; exact e
theorem PenAt.same {H H' : Hp} {P c : Addr} {ns : List Int} {k g : Int} (h : PenAt H P c ns k g) (s : Same H H') : PenAt H' P c ns k g := ⟨s _ _ h.hp, s _ _ h.hc, h.ne, h.k0, h.g0⟩
theorem PenAt.put {H : Hp} {P c : Addr} {ns : List Int} {k g k' g' : Int} (h : PenAt H P c ns k g) (h1 : 0 ≤ k') (h2 : 0 ≤ g') : PenAt (L2.upd H P (.lst [.ref c, .int k', .int g'])) P c ns k' g' :=
  ⟨upd_same, by rw [upd_ne h.ne]; exact h.hc, h.ne, h1, h2⟩
structure NwP (P : Addr) (G H G' H' : Hp) : Prop where
  s : But P H H'
  a : Same G G'
  b : Same G' H'
  n : ∀ p o, H p = some o → G p = none → G' p = none
theorem Nw.p {P : Addr} {G H G' H' : Hp} (x : Nw G H G' H') : NwP P G H G' H' := ⟨Same.but x.s, x.a, x.b, x.n⟩
theorem NwP.trans {P : Addr} {G H G' H' G2 H2 : Hp} (x : NwP P G H G' H') (y : NwP P G' H' G2 H2) (hp : ∀ o, H P = some o → ∃ u, H' P = some u) : NwP P G H G2 H2 :=
  ⟨x.s.trans y.s, x.a.trans y.a, x.b |> fun _ => y.b, fun p o e z => by
    by_cases q : p = P
    · subst q
      obtain ⟨u, hu⟩ := hp o e
      exact y.n _ u hu (x.n _ o e z)
    · exact y.n p o (x.s p o q e) (x.n p o e z)⟩
/-! ints, nothing in the heap changes -/
section
variable {K : PySem.W.Frag} {σ : L2.St} {H : Hp} {ta tb : TE} {i j : Int} {b : Bool}
theorem vi_add (ha : Val ta σ H (.int i)) (hb : Val tb σ H (.int j)) : Val (tOp (rI0 fun i j => .int (i + j)) ta tb) σ H (.int (i + j)) := val_op ha hb fun Q q => ⟨i, j, rfl, rfl, q⟩
theorem vi_sub (ha : Val ta σ H (.int i)) (hb : Val tb σ H (.int j)) : Val (tOp (rI0 fun i j => .int (i - j)) ta tb) σ H (.int (i - j)) := val_op ha hb fun Q q => ⟨i, j, rfl, rfl, q⟩
theorem vi_mul (hc : CMul i j) (ha : Val ta σ H (.int i)) (hb : Val tb σ H (.int j)) : Val (tOp (rI CMul fun i j => .int (i * j)) ta tb) σ H (.int (i * j)) := val_op ha hb fun Q q => ⟨i, j, rfl, rfl, hc, q⟩
theorem vi_mod (hc : 0 < j) (ha : Val ta σ H (.int i)) (hb : Val tb σ H (.int j)) : Val (tOp (rI (fun _ j => 0 < j) fun i j => .int (i % j)) ta tb) σ H (.int (i % j)) := val_op ha hb fun Q q => ⟨i, j, rfl, rfl, hc, q⟩
theorem vi_fdivN (hc : CDivN i j) (ha : Val ta σ H (.int i)) (hb : Val tb σ H (.int j)) : Val (tOp (rI CDivN fun i j => .int (i.fdiv j)) ta tb) σ H (.int (i.fdiv j)) := val_op ha hb fun Q q => ⟨i, j, rfl, rfl, hc, q⟩
theorem vi_pow (hc : CPow i j) (ha : Val ta σ H (.int i)) (hb : Val tb σ H (.int j)) : Val (tOp (rI CPow fun i j => .int (i ^ j.toNat)) ta tb) σ H (.int (i ^ j.toNat)) := val_op ha hb fun Q q => ⟨i, j, rfl, rfl, hc, q⟩
def rInt1 : List V → Hp → VK → Prop := fun xs H Q => (∃ i, xs = [.int i] ∧ Q (.int i) H) ∨ ∃ k, xs = [.bl k] ∧ Q (.int (if k then 1 else 0)) H
theorem vi_int (ha : Val ta σ H (.int i)) : Val (tCB rInt1 (tCons ta tNil)) σ H (.int i) := fun Q q => ha _ (.inl ⟨i, rfl, q⟩)
theorem vi_intb (ha : Val ta σ H (.bl b)) : Val (tCB rInt1 (tCons ta tNil)) σ H (.int (if b then 1 else 0)) := fun Q q => ha _ (.inr ⟨b, rfl, q⟩)
def rAbs1 : List V → Hp → VK → Prop := fun xs H Q => ∃ i, xs = [.int i] ∧ Q (.int (if i < 0 then -i else i)) H
theorem vi_abs (ha : Val ta σ H (.int i)) : Val (tCB rAbs1 (tCons ta tNil)) σ H (.int (if i < 0 then -i else i)) := fun Q q => ha _ ⟨i, rfl, q⟩
def rLen1 (K : PySem.W.Frag) : List V → Hp → VK → Prop := fun xs H Q => ∃ p ys, xs = [.ref p] ∧ (SqL K H p ys ∨ SqT K H p ys) ∧ Q (.int ys.length) H
theorem vi_len {p : Addr} {ys : List V} (ha : Val ta σ H (.ref p)) (h : H p = some (.lst ys)) : Val (tCB (rLen1 K) (tCons ta tNil)) σ H (.int ys.length) := fun Q q => ha _ ⟨p, ys, rfl, .inl (SqL.of h), q⟩
theorem vi_ix {p : Addr} {ys : List V} {n : Nat} {v : V} (ha : Val ta σ H (.ref p)) (hb : Val tb σ H (.int (n : Int))) (h : H p = some (.lst ys)) (hv : ys[n]? = some v) : Val (tOp (rIxL K) ta tb) σ H v :=
  val_op ha hb fun Q q => ⟨p, ys, n, v, rfl, rfl, SqL.of h, atI_nat hv, q⟩
theorem an_gt (ha : Val ta σ H (.int i)) (hb : Val tb σ H (.int j)) : Ans (tTest (tOp (rI0 fun i j => .bl (decide (j < i))) ta tb)) σ H (decide (j < i)) := ans_cmp ha hb fun Q q => ⟨i, j, rfl, rfl, q⟩
theorem an_ge (ha : Val ta σ H (.int i)) (hb : Val tb σ H (.int j)) : Ans (tTest (tOp (rI0 fun i j => .bl (decide (j ≤ i))) ta tb)) σ H (decide (j ≤ i)) := ans_cmp ha hb fun Q q => ⟨i, j, rfl, rfl, q⟩
theorem an_lt (ha : Val ta σ H (.int i)) (hb : Val tb σ H (.int j)) : Ans (tTest (tOp (rI0 fun i j => .bl (decide (i < j))) ta tb)) σ H (decide (i < j)) := ans_cmp ha hb fun Q q => ⟨i, j, rfl, rfl, q⟩
theorem vb_lt (ha : Val ta σ H (.int i)) (hb : Val tb σ H (.int j)) : Val (tOp (rI0 fun i j => .bl (decide (i < j))) ta tb) σ H (.bl (decide (i < j))) := val_op ha hb fun Q q => ⟨i, j, rfl, rfl, q⟩
/-- pen[n] = an int -/
theorem st_pen {to ti te : TE} {D : Ends} {P : Addr} {xs : List V} {n : Nat} {v : V} (he : Val te σ H v) (ho : Val to σ H (.ref P)) (hi : Val ti σ H (.int (n : Int))) (h : H P = some (.lst xs)) (hn : n < xs.length) (q : D.nx σ (upd H P (.lst (xs.set n v)))) :
    tAsg te (gSub to ti rSetL) D σ H := he _ (ho _ (hi _ ⟨P, xs, n, n, rfl, rfl, h, Evl.ixN_nat hn, q⟩))
end
theorem dp_ints {K : PySem.W.Frag} {H : Hp} : ∀ ns : List Int, DpAll K H (ns.map V.int) (ns.map PyData.int)
  | [] => .nil
  | n :: ns => .cons (.int n) (dp_ints ns)
theorem fdiv_nn {a m : Int} (ha : 0 ≤ a) (hm : 0 < m) : 0 ≤ a.fdiv m := by
  rw [Int.fdiv_eq_ediv_of_nonneg a (by omega)]
  exact Int.ediv_nonneg ha (by omega)
theorem pow_b1 {x k a b p : Int} (hp : 0 < p ∧ p ≤ 2147483648) (hk : 0 ≤ k ∧ k ≤ 10000) (ha : 0 ≤ a ∧ a ≤ 1000000) (hb : 0 ≤ b ∧ b ≤ 1000000) : (x % p + a * k + b).natAbs < 2 ^ 64 := by
  have h1 := Int.emod_nonneg x (show p ≠ 0 by omega)
  have h2 := Int.emod_lt_of_pos x hp.1
  have h3 : 0 ≤ a * k := Int.mul_nonneg ha.1 hk.1
  have h4 : a * k ≤ 1000000 * 10000 := Int.mul_le_mul ha.2 hk.2 hk.1 (by decide)
  omega
theorem pow_b2 {x k a b c : Int} (hx : 0 ≤ x ∧ x ≤ 2147483648) (hk : 0 ≤ k ∧ k ≤ 10000) (ha : 0 ≤ a ∧ a ≤ 1000000) (hb : 0 ≤ b ∧ b ≤ 1000000) (hc : 0 ≤ c ∧ c ≤ 1000000) : (x * (2 * k + a) + b * k * k + c).natAbs < 2 ^ 64 := by
  have h1 : 0 ≤ x * (2 * k + a) := Int.mul_nonneg hx.1 (by omega)
  have h2 : x * (2 * k + a) ≤ 2147483648 * 1020000 := Int.mul_le_mul hx.2 (by omega) (by omega) (by decide)
  have h3 : 0 ≤ b * k := Int.mul_nonneg hb.1 hk.1
  have h4 : b * k ≤ 1000000 * 10000 := Int.mul_le_mul hb.2 hk.2 hk.1 (by decide)
  have h5 : 0 ≤ b * k * k := Int.mul_nonneg h3 hk.1
  have h6 : b * k * k ≤ 10000000000 * 10000 := Int.mul_le_mul h4 hk.2 hk.1 (by decide)
  omega
/-! the promises -/
def spPen (K : PySem.W.Frag) : Sp := fun vs H Q _ => ∃ (a : Addr) (ns : List Int), vs = [.ref a] ∧ SqL K H a (ns.map V.int) ∧ ns.length ≤ 63 ∧ ∀ P c H', Same H H' → H P = none → H c = none → PenAt H' P c ns 0 0 → Q (.ref P) H'
def spDraw (most : Int) : Sp := fun vs H Q _ => ∃ (P c : Addr) (ns : List Int) (k g m : Int), vs = [.ref P, .int m] ∧ PenAt H P c ns k g ∧ ns.length ≤ 63 ∧ k ≤ 9999 ∧ 0 < m ∧ m < most ∧
  ∀ r H' k' g', 0 ≤ r → r < m → But P H H' → PenAt H' P c ns k' g' → k' ≤ k + 1 → Q (.int r) H'
def spPick (K : PySem.W.Frag) : Sp := fun vs H Q _ => ∃ (P c : Addr) (ns : List Int) (k g : Int) (w : V) (G : Hp) (ds : List Da), vs = [.ref P, w] ∧ PenAt H P c ns k g ∧ ns.length ≤ 63 ∧ k ≤ 9999 ∧ Same G H ∧ G P = none ∧ DR K G w (.lst ds) ∧ ds ≠ [] ∧ ds.length ≤ 1000 ∧
  ∀ v d H' k' g', d ∈ ds → But P H H' → PenAt H' P c ns k' g' → k' ≤ k + 1 → DR K G v d → Q v H'
/-! rules with the written part named -/
section
variable {X : Cx} {K : PySem.W.Frag} {p pos : Pos} {e : Expr} {te : TE}
theorem pe_lenK (hK : X.K = K) (hm : X.mg "len" = none) (hg : Gl X "len") (ha : PE X e te) (hst : starEach [e] X.env = (false, eval e X.env) :: starEach [] X.env := by rfl) (hpl : (backTo pos (starEach [] X.env)).any (·.1) = false := by rfl) :
    PE X (.Call (.Name "len" p) [e] [] pos) (tCB (rLen1 K) (tCons te tNil)) := by
  subst hK
  exact pe_callB call_len_seq hg hm PySem.boot_len (pa_cons ha pa_nil hst) (by decide) (by decide) hst hpl
theorem ix_listK (hK : X.K = K) : IxR X (rIxL K) := by subst hK; exact ix_list
end
theorem shaped_ints (ns : List Int) : SeqAt.shaped (.list (ns.map PyData.int)) = true := by
  have h1 : ∀ ns : List Int, PyData.canLayAll0 (ns.map PyData.int) = true := fun ns => by
    induction ns with
    | nil => simp [PyData.canLayAll0]
    | cons n ns ih => simp [PyData.canLayAll0, PyData.canLay0, ih]
  have h2 : ∀ ns : List Int, PyData.depthAll (ns.map PyData.int) ≤ 1 := fun ns => by
    induction ns with
    | nil => simp [PyData.depthAll]
    | cons n ns ih => simp [PyData.depthAll, PyData.depth]; omega
  unfold SeqAt.shaped
  have := h2 ns
  rw [Bool.and_eq_true, decide_eq_true_eq]
  refine ⟨by simp only [PyData.canLay0]; exact h1 ns, ?_⟩
  show PyData.depth _ ≤ 64
  simp only [PyData.depth]
  omega
/-- if pen[0] != []: cell = pen[0][int(spot) % len(pen[0])] -/
theorem pen_if {K : PySem.W.Frag} {P c : Addr} {ns : List Int} {k k1 g z0 : Int} {m d1 d2 d3 : Option V} {H : Hp} {D : Ends} (hp : PenAt H P c ns k1 g) (hk : 0 ≤ k) (q : ∀ z H', Same H H' → D.nx [some (.ref P), m, d1, some (.int k), some (.int z), d2, d3] H') :
    tIfS (tTest (tOp (rNeD K) (tOp (rIxL K) (tVar 0) (tC (.int 0))) (tLst tNil)))
      (tAsg (tOp (rIxL K) (tOp (rIxL K) (tVar 0) (tC (.int 0))) (tOp (rI (fun _ j => 0 < j) fun i j => .int (i % j)) (tCB rInt1 (tCons (tVar 3) tNil)) (tCB (rLen1 K) (tCons (tOp (rIxL K) (tVar 0) (tC (.int 0))) tNil)))) (gName 4))
      tNext D [some (.ref P), m, d1, some (.int k), some (.int z0), d2, d3] H := by
  have go : ∀ H', PenAt H' P c ns k1 g → ∀ Q : VK, Q (.ref c) H' → tOp (rIxL K) (tVar 0) (tC (.int 0)) [some (.ref P), m, d1, some (.int k), some (.int z0), d2, d3] H' Q := fun H' h Q q => vi_ix (n := 0) (val_var rfl) (val_c (v := .int 0)) h.hp rfl Q q
  refine go H hp _ ⟨by show 0 ≤ sizeLine; omega, fun p hpn => ?_⟩
  have hs : Same H (upd H p (.lst [])) := same_upd (Same.refl H) hpn
  have hp2 := hp.same hs
  refine ⟨.list (ns.map PyData.int), .list [], .lst (SqL.of hp2.hc) (dp_ints ns), .lst (SqL.of upd_same) .nil, shaped_ints ns, by decide, _, rfl, ?_⟩
  cases ns with
  | nil =>
    have e : (!PyData.eqv (.list (([] : List Int).map PyData.int)) (.list [])) = false := by decide
    rw [e]
    exact q z0 _ hs
  | cons n ns =>
    have e : (!PyData.eqv (.list ((n :: ns).map PyData.int)) (.list [])) = true := by
      rw [Bool.not_eq_true']
      first
      | rfl
      | simp [PyData.eqv, PyData.eqvAll]
      | (simp [PyData.eqv]; done)
    rw [e]
    rw [if_pos rfl]
    obtain ⟨i, hi⟩ := Int.eq_ofNat_of_zero_le (Int.emod_nonneg k (show (((n :: ns).map V.int).length : Int) ≠ 0 by rw [List.length_map, List.length_cons]; omega))
    have hi2 : i < (n :: ns).length := by
      have := Int.emod_lt_of_pos k (show (0 : Int) < (((n :: ns).map V.int).length : Int) by rw [List.length_map, List.length_cons]; omega)
      rw [hi, List.length_map] at this
      exact Int.ofNat_lt.mp this
    refine st_set (v := .int (n :: ns)[i]) (vi_ix (n := i) (ys := (n :: ns).map V.int) (go _ hp2) ?_ hp2.hc (by rw [List.getElem?_map, List.getElem?_eq_getElem hi2]; rfl)) (q _ _ hs)
    have h3 := vi_mod (σ := [some (.ref P), m, d1, some (.int k), some (.int z0), d2, d3]) (show (0 : Int) < (((n :: ns).map V.int).length : Int) by rw [List.length_map, List.length_cons]; omega) (vi_int (val_var (H := upd H p (.lst [])) (i := 3) (v := .int k) rfl)) (vi_len (K := K) (go _ hp2) hp2.hc)
    rw [hi] at h3
    exact h3
/-- return [list(script[:63]), 0, 0] -/
theorem pen_new {K : PySem.W.Frag} {a : Addr} {ns : List Int} {H : Hp} {Q : VK} {D : Ends} (ha : SqL K H a (ns.map V.int)) (hl : ns.length ≤ 63) (k : ∀ P c H', Same H H' → H P = none → H c = none → PenAt H' P c ns 0 0 → Q (.ref P) H') (hD : D.rt = Q := by rfl) :
    tRet (tLst (tCons (tCB (fun xs H Q => ∃ p ys, xs = [.ref p] ∧ (SqL K H p ys ∨ SqT K H p ys) ∧ ∀ l, H l = none → Q (.ref l) (upd H l (.lst ys))) (tCons (tSl (rSlL K) (tVar 0) tNoPart (tPart (tC (.int 63)))) tNil)) (tCons (tC (.int 0)) (tCons (tC (.int 0)) tNil)))) D [some (.ref a)] H := by
  have cut : cutV (ns.map V.int) none (some 63) = ns.map V.int := by
    unfold cutV
    have h0 : HT.sIx (ns.map V.int).length 0 none = 0 := rfl
    have h1 : (ns.map V.int).length ≤ HT.sIx (ns.map V.int).length (ns.map V.int).length (some 63) := by
      rw [List.length_map]
      unfold HT.sIx
      simp only []
      first
      | omega
      | (split <;> omega)
      | (simp; omega)
    rw [h0, List.drop_zero, List.take_of_length_le (by omega)]
  show tLst _ _ _ _
  rw [hD]
  refine ⟨.ref a, rfl, 63, rfl, a, ns.map V.int, rfl, ha, fun p hp => ?_⟩
  rw [cut]
  have s1 : Same H (upd H p (.lst (ns.map V.int))) := same_upd (Same.refl H) hp
  refine ⟨p, ns.map V.int, rfl, .inl (SqL.of upd_same), fun c hc => ?_⟩
  have s2 := same_upd (o := .lst (ns.map V.int)) s1 (s1.free hc)
  refine ⟨by show 3 ≤ sizeLine; decide, fun P hP => ?_⟩
  have hPc : c ≠ P := ne_of_none (H := upd (upd H p (.lst (ns.map V.int))) c (.lst (ns.map V.int))) upd_same hP
  exact k P c _ (same_upd s2 (s2.free hP)) (s2.free hP) (s1.free hc) ⟨upd_same, by rw [upd_ne hPc]; exact upd_same, hPc, by decide, by decide⟩
/-- return some[draw(pen, len(some))] -/
theorem pick_go {K : PySem.W.Frag} {P c : Addr} {ns : List Int} {k g : Int} {w : V} {G H : Hp} {ds : List Da} {Q : VK} {E : XK} {D : Ends} (hp : PenAt H P c ns k g) (hl : ns.length ≤ 63) (hk : k ≤ 9999) (hs : Same G H) (gP : G P = none) (dr : DR K G w (.lst ds)) (ne : ds ≠ []) (hz : ds.length ≤ 1000)
    (kk : ∀ v d H' k' g', d ∈ ds → But P H H' → PenAt H' P c ns k' g' → k' ≤ k + 1 → DR K G v d → Q v H') (hD : D.rt = Q := by rfl) :
    tRet (tOp (rIxL K) (tVar 1) (tCall (spDraw 1073741824) [] E (tCons (tVar 0) (tCons (tCB (rLen1 K) (tCons (tVar 1) tNil)) tNil)))) D [some (.ref P), some w] H := by
  cases dr with
  | @lst a xs _ h1 h2 =>
    have hx : 0 < xs.length := by
      rw [h2.len]
      exact List.length_pos_iff.mpr ne
    refine ⟨_, rfl, .ref P, rfl, .ref a, rfl, a, xs, rfl, .inl (SqL.of (hs _ _ h1)), P, c, ns, k, g, (xs.length : Int), rfl, hp, hl, hk, by omega, by rw [h2.len]; omega, fun r H' k' g' r0 r1 bt hp' hk' => ?_⟩
    obtain ⟨i, rfl⟩ := Int.eq_ofNat_of_zero_le r0
    have hi : i < xs.length := by omega
    obtain ⟨d, e1, e2⟩ := h2.get (List.getElem?_eq_getElem hi)
    rw [hD]
    exact ⟨a, xs, i, _, rfl, rfl, SqL.of (bt.same hs gP _ _ h1), atI_nat (List.getElem?_eq_getElem hi), kk _ _ _ _ _ (List.mem_of_getElem? e1) bt hp' hk' e2⟩
end GL

set_option Elab.async false
set_option linter.all false
set_option maxRecDepth 100000
set_option maxHeartbeats 4000000
namespace K05
open PySem PySem.Spec PyProof.Rows L2 GL
section
variable {P : Program} {w : World} {K : PySem.W.Frag} {mg : Str → Option Value} {base : Heap} {CT : Addr}
theorem sc_law_pen : FnScope ["_law_script"] ["_law_script"] (defScope s__law_pen) := ⟨rfl, rfl, rfl, by decide +kernel, rfl, by decide +kernel, by decide +kernel⟩
theorem ok_law_pen {f : Addr} {fd : FuncData} (F : Fun K "_law_pen" "_law_pen" s__law_pen f fd) (T : T5 P w K mg base CT) : FnOk P w K mg base CX0 1 f fd ["_law_script"] (spPen K) := by
  refine F.ok sc_law_pen (fun vs H Q E h => by obtain ⟨a, ns, rfl, _⟩ := h; rfl) fun cdv A outer s H vs Q E hr h => ?_
  obtain ⟨a, ns, rfl, ha, hl, k⟩ := h
  exact ⟨_, (pss_one (ps_ret (pe_lst (pa_cons (pe_callTy call_list_of (by rfl) T.n_list (by decide +kernel) (pa_cons (pe_slice sl_list (pv 0) po_none (po_some pe_int)) pa_nil)) (pa_cons pe_int (pa_cons pe_int pa_nil)))))), pen_new ha hl k⟩
theorem sc_law_draw : FnScope ["_law_pen_here", "_law_many", "_law_digit", "_law_at", "_law_cell", "_law_great", "_law_mixed"] ["_law_pen_here", "_law_many"] (defScope s__law_draw) := ⟨rfl, rfl, rfl, by decide +kernel, rfl, by decide +kernel, by decide +kernel⟩
theorem ok_law_draw {f : Addr} {fd : FuncData} (F : Fun K "_law_draw" "_law_draw" s__law_draw f fd) (T : T5 P w K mg base CT) : FnOk P w K mg base CX0 1 f fd ["_law_pen_here", "_law_many"] (spDraw 1073741824) := by
  refine F.ok sc_law_draw (fun vs H Q E h => by obtain ⟨P, c, ns, k, g, m, rfl, _⟩ := h; rfl) fun cdv A outer s H vs Q E hr h => ?_
  obtain ⟨P, c, ns, k, g, m, rfl, hp, hl, hk, hm, hm2, kk⟩ := h
  refine ⟨_, (pss_cons (ps_if (pt_cmpR op_gt (pe_ix ix_list (pv 0) pe_int (fun _ _ => rfl)) pe_int (nomark _)) (pss_cons (ps_set (i := 2) sc_law_draw.nd rfl (Or.inl rfl) (pe_op op_mod (pe_callTy call_int1 (by rfl) T.n_int (by decide +kernel) (pa_cons (pe_ix ix_list (pv 0) pe_int (fun _ _ => rfl)) pa_nil)) (pv 1)))
      (pss_cons (ps_asg (pe_op op_fdivN (pe_callTy call_int1 (by rfl) T.n_int (by decide +kernel) (pa_cons (pe_ix ix_list (pv 0) pe_int (fun _ _ => rfl)) pa_nil)) (pv 1)) (pg_sub (pv 0) pe_int set_list))
      (pss_one (ps_ret (pv 2))))) pss_nil)
      (pss_cons (ps_set (i := 3) sc_law_draw.nd rfl (Or.inl rfl) (pe_ix ix_list (pv 0) pe_int (fun _ _ => rfl)))
      (pss_cons (ps_asg (pe_op op_add (pv 3) pe_int) (pg_sub (pv 0) pe_int set_list))
      (pss_cons (ps_set (i := 4) sc_law_draw.nd rfl (Or.inl rfl) (pe_op op_add (pe_op op_mul pe_int (pv 3)) pe_int))
      (pss_cons (ps_if (pt_neD (K := K) rfl hr.units (pe_ix ix_list (pv 0) pe_int (fun _ _ => rfl)) (pe_lst pa_nil)) (pss_one (ps_set (i := 4) sc_law_draw.nd rfl (Or.inl rfl) (pe_ix ix_list (pe_ix ix_list (pv 0) pe_int (fun _ _ => rfl)) (pe_op op_mod (pe_callTy call_int1 (by rfl) T.n_int (by decide +kernel) (pa_cons (pv 3) pa_nil)) (pe_callB call_len_seq (by rfl) T.n_len PySem.boot_len (pa_cons (pe_ix ix_list (pv 0) pe_int (fun _ _ => rfl)) pa_nil))) (fun _ _ => rfl)))) pss_nil)
      (pss_cons (ps_if (PW.pt (pw_and (pt_cmpR op_lt (pv 3) (pe_callB call_len_seq (by rfl) T.n_len PySem.boot_len (pa_cons (pe_ix ix_list (pv 0) pe_int (fun _ _ => rfl)) pa_nil)) (nomark _)) (pw_and1 (pt_cmpR op_ge (pe_callB call_abs (by rfl) T.n_abs (by decide +kernel) (pa_cons (pv 4) pa_nil)) (pe_op op_pow pe_int pe_int) (nomark _))))) (pss_cons (ps_set (i := 5) sc_law_draw.nd rfl (Or.inl rfl) (pe_op op_add (pe_op op_mul pe_int (pe_op op_sub (pe_callB call_abs (by rfl) T.n_abs (by decide +kernel) (pa_cons (pv 4) pa_nil)) (pe_op op_pow pe_int pe_int))) (pe_callTy call_int1 (by rfl) T.n_int (by decide +kernel) (pa_cons (pe_cmpR op_lt (pv 4) pe_int (nomark _)) pa_nil))))
      (pss_cons (ps_asg (pe_op op_fdivN (pe_callTy call_int1 (by rfl) T.n_int (by decide +kernel) (pa_cons (pv 5) pa_nil)) (pv 1)) (pg_sub (pv 0) pe_int set_list))
      (pss_one (ps_ret (pe_op op_mod (pe_callTy call_int1 (by rfl) T.n_int (by decide +kernel) (pa_cons (pv 5) pa_nil)) (pv 1)))))) pss_nil)
      (pss_cons (ps_set (i := 6) sc_law_draw.nd rfl (Or.inl rfl) (pe_op op_mod (pe_callTy call_int1 (by rfl) T.n_int (by decide +kernel) (pa_cons (pe_op op_pow (pe_op op_add (pe_op op_add (pe_op op_mod (pe_callTy call_int1 (by rfl) T.n_int (by decide +kernel) (pa_cons (pv 4) pa_nil)) pe_int) (pe_op op_mul pe_int (pv 3))) pe_int) pe_int) pa_nil)) pe_int))
      (pss_cons (ps_set (i := 6) sc_law_draw.nd rfl (Or.inl rfl) (pe_op op_mod (pe_callTy call_int1 (by rfl) T.n_int (by decide +kernel) (pa_cons (pe_op op_pow (pe_op op_add (pe_op op_add (pe_op op_mul (pv 6) (pe_op op_add (pe_op op_mul pe_int (pv 3)) pe_int)) (pe_op op_mul (pe_op op_mul pe_int (pv 3)) (pv 3))) pe_int) pe_int) pa_nil)) pe_int))
      (pss_one (ps_ret (pe_op op_mod (pe_callTy call_int1 (by rfl) T.n_int (by decide +kernel) (pa_cons (pe_op op_fdivN (pv 6) pe_int) pa_nil)) (pv 1)))))))))))), ?_⟩
  have k0 := hp.k0
  by_cases hg : 0 < g
  · refine st_seq (st_yes ((an_gt (vi_ix (n := 2) (val_var rfl) val_c hp.hp rfl) val_c).to (by simp [hg])) ?_)
    refine st_seq (st_set (vi_mod hm (vi_int (vi_ix (n := 2) (val_var rfl) val_c hp.hp rfl)) (val_var rfl)) ?_)
    refine st_seq (st_pen (n := 2) (vi_fdivN ⟨by omega, by omega⟩ (vi_int (vi_ix (n := 2) (val_var rfl) val_c hp.hp rfl)) (val_var rfl)) (val_var rfl) val_c hp.hp (Nat.le_of_ble_eq_true rfl) ?_)
    refine st_ret (val_var rfl) ?_
    exact kk _ _ _ _ (Int.emod_nonneg _ (by omega)) (Int.emod_lt_of_pos _ hm) But.upd (hp.put hp.k0 (fdiv_nn hp.g0 hm)) (by omega)
  refine st_seq (st_no ((an_gt (vi_ix (n := 2) (val_var rfl) val_c hp.hp rfl) val_c).to (by simp [hg])) (st_next ?_))
  refine st_seq (st_set (vi_ix (n := 1) (val_var rfl) val_c hp.hp rfl) ?_)
  refine st_seq (st_pen (n := 1) (vi_add (val_var rfl) val_c) (val_var rfl) val_c hp.hp (Nat.le_of_ble_eq_true rfl) ?_)
  have hp1 : PenAt (upd H P (.lst [.ref c, .int (k + 1), .int g])) P c ns (k + 1) g := hp.put (by omega) hp.g0
  have b1 : But P H (upd H P (.lst [.ref c, .int (k + 1), .int g])) := But.upd
  refine st_seq (st_set (vi_add (vi_mul (.inl (by decide)) val_c (val_var rfl)) val_c) ?_)
  refine st_seq (pen_if hp1 hp.k0 fun z H2 s2 => ?_)
  have hp2 := hp1.same s2
  have b2 : But P H H2 := b1.trans (Same.but s2)
  have lt := an_lt (σ := [some (.ref P), some (.int m), none, some (.int k), some (.int z), none, none]) (val_var (i := 3) rfl) (vi_len (K := K) (vi_ix (K := K) (n := 0) (val_var (i := 0) rfl) (val_c (v := .int 0)) hp2.hp rfl) hp2.hc)
  have e18 : (10 : Int) ^ (18 : Int).toNat = 1000000000000000000 := by decide
  have ge := an_ge (σ := [some (.ref P), some (.int m), none, some (.int k), some (.int z), none, none]) (vi_abs (val_var (H := H2) (i := 4) rfl)) (vi_pow (i := 10) (j := 18) ⟨by decide, by decide, by decide⟩ val_c val_c)
  have tt := ans_and2 lt ge
  cases hb : (decide (k < ((ns.map V.int).length : Int)) && decide ((10 : Int) ^ (18 : Int).toNat ≤ if z < 0 then -z else z)) with
  | true =>
    refine st_seq (st_yes (tt.to hb) ?_)
    have hz : (10 : Int) ^ (18 : Int).toNat ≤ if z < 0 then -z else z := by
      rw [Bool.and_eq_true] at hb
      exact of_decide_eq_true hb.2
    rw [e18] at hz
    refine st_seq (st_set (vi_add (vi_mul (.inl (by decide)) val_c (vi_sub (vi_abs (val_var rfl)) (vi_pow ⟨by decide, by decide, by decide⟩ val_c val_c))) (vi_intb (vb_lt (val_var rfl) val_c))) ?_)
    refine st_seq (st_pen (n := 2) (vi_fdivN ⟨by omega, by omega⟩ (vi_int (val_var rfl)) (val_var rfl)) (val_var rfl) val_c hp2.hp (Nat.le_of_ble_eq_true rfl) ?_)
    refine st_ret (vi_mod hm (vi_int (val_var rfl)) (val_var rfl)) ?_
    refine kk _ _ _ _ (Int.emod_nonneg _ (by omega)) (Int.emod_lt_of_pos _ hm) (b2.trans But.upd) (hp2.put hp2.k0 (fdiv_nn ?_ hm)) (by omega)
    rw [e18]
    split <;> split <;> omega
  | false =>
    refine st_seq (st_no (tt.to hb) (st_next ?_))
    refine st_seq (st_set (vi_mod (by decide) (vi_int (vi_pow ⟨by decide, by decide, ?_⟩ (vi_add (vi_add (vi_mod (by decide) (vi_int (val_var rfl)) val_c) (vi_mul (.inl (by decide)) val_c (val_var rfl))) val_c) val_c)) val_c) ?_)
    · exact pow_b1 ⟨by decide, by decide⟩ ⟨hp.k0, by omega⟩ ⟨by decide, by decide⟩ ⟨by decide, by decide⟩
    generalize hx : ((z % 2147483579 + 46691 * k + 523) ^ (5 : Int).toNat) % 2147483629 = x
    have x0 : 0 ≤ x := by rw [← hx]; exact Int.emod_nonneg _ (by decide)
    have x1 : x < 2147483629 := by rw [← hx]; exact Int.emod_lt_of_pos _ (by decide)
    refine st_seq (st_set (vi_mod (by decide) (vi_int (vi_pow ⟨by decide, by decide, ?_⟩ (vi_add (vi_add (vi_mul (.inl ?_) (val_var rfl) (vi_add (vi_mul (.inl (by decide)) val_c (val_var rfl)) val_c)) (vi_mul (.inr ?_) (vi_mul (.inl (by decide)) val_c (val_var rfl)) (val_var rfl))) val_c) val_c)) val_c) ?_)
    · exact pow_b2 ⟨x0, by omega⟩ ⟨hp.k0, by omega⟩ ⟨by decide, by decide⟩ ⟨by decide, by decide⟩ ⟨by decide, by decide⟩
    · exact ⟨by omega, by omega⟩
    · exact ⟨by omega, by omega⟩
    refine st_ret (vi_mod hm (vi_int (vi_fdivN ⟨by decide, by decide⟩ (val_var rfl) val_c)) (val_var rfl)) ?_
    exact kk _ _ _ _ (Int.emod_nonneg _ (by omega)) (Int.emod_lt_of_pos _ hm) b2 hp2 (by omega)
theorem sc_law_pick : FnScope ["_law_pen_here", "_law_some"] ["_law_pen_here", "_law_some"] (defScope s__law_pick) := ⟨rfl, rfl, rfl, by decide +kernel, rfl, by decide +kernel, by decide +kernel⟩
theorem ok_law_pick {f : Addr} {fd : FuncData} (F : Fun K "_law_pick" "_law_pick" s__law_pick f fd) (T : T5 P w K mg base CT) (F_law_draw : CalO P w K mg base 1 "_law_draw" ["_law_pen_here", "_law_many"] (spDraw 1073741824)) : FnOk P w K mg base CX0 2 f fd ["_law_pen_here", "_law_some"] (spPick K) := by
  refine F.ok sc_law_pick (fun vs H Q E h => by obtain ⟨P, c, ns, k, g, w, G, ds, rfl, _⟩ := h; rfl) fun cdv A outer s H vs Q E hr h => ?_
  obtain ⟨P, c, ns, k, g, w', G, ds, rfl, hp, hl, hk, hs, gP, dr, ne, hz, kk⟩ := h
  exact ⟨_, (pss_one (ps_ret (pe_ix ix_list (pv 1) (pe_calO F_law_draw (hr.mono (by decide)) rfl (pa_cons (pv 0) (pa_cons (pe_callB call_len_seq (by rfl) T.n_len PySem.boot_len (pa_cons (pv 1) pa_nil)) pa_nil))) (fun _ _ => rfl)))), pick_go hp hl hk hs gP dr ne hz kk⟩
theorem sc_law_is_name : FnScope ["_law_word", "_law_sign"] ["_law_word"] (defScope s__law_is_name) := ⟨rfl, rfl, rfl, by decide +kernel, rfl, by decide +kernel, by decide +kernel⟩
theorem odd_list (x : Str) : (((x.cps.toList.map fun c => Da.str (sgn c)).filter fun d => !decide (sgOf d ∈ LET.cps.toList)).map id) = ((x.cps.toList.filter fun c => !decide (c ∈ LET.cps.toList)).map sgn).map Da.str := by
  rw [List.map_id, List.filter_map, List.map_map]
  rfl
theorem filter_nil (p : Nat → Bool) : ∀ l : List Nat, (l.filter fun c => !p c).isEmpty = l.all p
  | [] => rfl
  | c :: l => by
    have ih := filter_nil p l
    rw [List.filter_cons, List.all_cons]
    cases p c with
    | true => exact ih
    | false => rfl
theorem odd_nil (x : Str) : ((x.cps.toList.filter fun c => !decide (c ∈ LET.cps.toList)).map sgn).isEmpty = (x.cps.toList.map fun c => decide (c ∈ LET.cps.toList)).all id := by
  rw [List.isEmpty_map, List.all_map]
  exact filter_nil (fun c => decide (c ∈ LET.cps.toList)) _
theorem ok_law_is_name {f : Addr} {fd : FuncData} (F : Fun K "_law_is_name" "_law_is_name" s__law_is_name f fd) (T : T5 P w K mg base CT) : FnOk P w K mg base CX0 1 f fd ["_law_word"] (Pr K 1 fun ds d => ∃ x : Str, x.length ≤ 1000 ∧ ds = [.str x] ∧ d = .bl (isNm x)) := by
  refine F.ok sc_law_is_name Pr.len fun cdv A outer s H vs Q E hr h => ?_
  obtain ⟨G, ds, d, hs, hl, hd, ⟨x, hx, rfl, rfl⟩, k⟩ := h
  obtain ⟨v, rfl, dv⟩ := one_of hd
  refine ⟨_, (pss_one (ps_ret (pe_and (pe_chain op_le op_le pe_int (pe_callB call_len_str (by rfl) T.n_len PySem.boot_len (pa_cons (pv 0) pa_nil)) pe_int) (pe_one (pe_eqP (K := K) rfl hr.units (pe_lc (own := [("_law_sign", 1)]) (g := (gName 1)) rfl sc_law_is_name.nd (pi_str (pv 0)) (blkOk_by (N := ["_law_word", "_law_sign"]) (sc := defScope s__law_is_name) (by decide +kernel)) (fun _ _ _ _ _ => (pg_name (i := 1) sc_law_is_name.nd rfl (Or.inl rfl))) (fun _ _ _ _ _ => (pts_one (pt_cmpR op_notInS (pv 1) pe_str (by rfl)))) (fun _ _ _ _ _ => (pv 1))) (pe_lst pa_nil)))))), ?_⟩
  refine ret_d k (Nw.refl hs) (ed_is (x_andV (ed_le2 xc_int (ed_lenS (ed_var rfl dv) hx) xc_int) (x_nilS (ed_is (ed_lcS (fun d => !decide (sgOf d ∈ LET.cps.toList)) id (ed_var rfl dv) hx fun y d G' H' s1 s2 hm dy => ?_) (congrArg Da.lst (odd_list x))) (x_lst es_nil))) ?_) rfl
  · obtain ⟨c, _, rfl⟩ := List.mem_map.mp hm
    exact ⟨_, go_name, rfl, et_of (ed_notInS (c := c) (ed_var rfl dy) xc_str), fun _ G2 s3 => ed_var rfl (dy.up s3)⟩
  · rw [odd_nil]
    rfl
theorem sc_law_wrong : FnScope ["_law_line", "_law_words", "_law_parts", "_law_k"] ["_law_line"] (defScope s__law_wrong) := ⟨rfl, rfl, rfl, by decide +kernel, rfl, by decide +kernel, by decide +kernel⟩
theorem ok_law_wrong {f : Addr} {fd : FuncData} (F : Fun K "_law_wrong" "_law_wrong" s__law_wrong f fd) (T : T5 P w K mg base CT) (F_law_is_name : CalO P w K mg base 1 "_law_is_name" ["_law_word"] (Pr K 1 fun ds d => ∃ x : Str, x.length ≤ 1000 ∧ ds = [.str x] ∧ d = .bl (isNm x))) : FnOk P w K mg base CX0 2 f fd ["_law_line"] (Pr K 1 fun ds d => ∃ x : Str, x.length ≤ 800 ∧ ds = [.str x] ∧ d = oI (wrongW (Txt.split x " "))) := by
  refine F.ok sc_law_wrong Pr.len fun cdv A outer s H vs Q E hr h => ?_
  obtain ⟨G, ds, d, hs, hl, hd, ⟨z, hz, rfl, rfl⟩, k⟩ := h
  obtain ⟨v, rfl, d0⟩ := one_of hd
  refine ⟨_, (pss_cons (ps_set (i := 1) sc_law_wrong.nd rfl (Or.inl rfl) (pe_split (pv 0) pe_str))
      (pss_cons (ps_set (i := 2) sc_law_wrong.nd rfl (Or.inl rfl) (pe_split (pe_ix ix_list (pv 1) pe_int (fun _ _ => rfl)) pe_str))
      (pss_cons (ps_if (PW.pt (pw_or (pt_cmpR op_ne (pe_callB call_len_seq (by rfl) T.n_len PySem.boot_len (pa_cons (pv 2) pa_nil)) pe_int (nomark _)) (pw_or (pt_not (pt_val (pe_calO F_law_is_name (hr.mono (by decide)) rfl (pa_cons (pe_ix ix_list (pv 2) pe_int (fun _ _ => rfl)) pa_nil)))) (pw_or (pt_not (pt_val (pe_calO F_law_is_name (hr.mono (by decide)) rfl (pa_cons (pe_ix ix_list (pv 2) pe_int (fun _ _ => rfl)) pa_nil)))) (pw_or1 (pt_cmpR op_eq (pe_ix ix_list (pv 2) pe_int (fun _ _ => rfl)) (pe_ix ix_list (pv 2) pe_int (fun _ _ => rfl)) (nomark _))))))) (pss_one (ps_ret pe_int)) pss_nil)
      (pss_cons (ps_if (PW.pt (pw_or (pt_cmpR op_eq (pe_callB call_len_seq (by rfl) T.n_len PySem.boot_len (pa_cons (pv 1) pa_nil)) pe_int (nomark _)) (pw_or1 (pt_cmpR op_notIn_seq (pe_ix ix_list (pv 1) pe_int (fun _ _ => rfl)) (pe_lc (own := [("_law_k", 3)]) (g := (gName 3)) (tt := tYes) rfl sc_law_wrong.nd (pi_range1 rfl T.n_range (pa_cons pe_int pa_nil)) (blkOk_by (N := ["_law_line", "_law_words", "_law_parts", "_law_k"]) (sc := defScope s__law_wrong) (by decide +kernel)) (fun _ _ _ _ _ => (pg_name (i := 3) sc_law_wrong.nd rfl (Or.inl rfl))) (fun _ _ _ _ _ => pts_nil) (fun _ _ _ _ _ => (pe_callTy call_str_int (by rfl) T.n_str (by decide +kernel) (pa_cons (pv 3) pa_nil)))) (by rfl))))) (pss_one (ps_ret pe_int)) pss_nil)
      (pss_one (ps_ret (pe_ifExp (pt_cmpR op_gt (pe_callB call_len_seq (by rfl) T.n_len PySem.boot_len (pa_cons (pv 1) pa_nil)) pe_int (nomark _)) pe_int pe_non))))))), ?_⟩
  refine qd_asg hs (ed_split (K := K) (ed_var rfl d0) xc_str (by decide) (by omega)) fun w1 G1 H1 n1 d1 => ?_
  have pos := split_pos z " "
  have pl : ∀ y ∈ Txt.split z " ", y.length ≤ z.length := fun y hy => piece_le hy (by decide)
  generalize Txt.split z " " = ws at d1 pos pl k
  cases ws with
  | nil => exact absurd pos (by decide)
  | cons x r =>
    have lx := pl x (by simp)
    refine qd_asg n1.b (ed_split (K := K) (ed_ixL (i := 0) (ed_var rfl d1) (fun _ _ => xc_int) rfl) xc_str (by decide) (by omega)) fun w2 G2 H2 n2 d2 => ?_
    have d1 := d1.up n2.a
    have n2 := n1.trans n2
    have pl2 : ∀ y ∈ Txt.split x ">", y.length ≤ x.length := fun y hy => piece_le hy (by decide)
    have way : isWay x = (match Txt.split x ">" with | [a, b] => !decide (a = b) && (isNm a && isNm b) | _ => false) := rfl
    generalize Txt.split x ">" = ys at d2 pl2 way
    refine qd_if n2.b (b := !isWay x) ?_ (fun hb G3 H3 n3 => ?_) (fun hb G3 H3 n3 => ?_)
    · rw [way]
      by_cases h2 : ys.length = 2
      · obtain ⟨a, b, rfl⟩ : ∃ a b, ys = [a, b] := by
          match ys, h2 with
          | [a, b], _ => exact ⟨a, b, rfl⟩
        have pa := pl2 a (by simp)
        have pb := pl2 b (by simp)
        refine et_is (x_or (b := false) (et_of (ed_neI (K := K) (ed_lenL (ed_var rfl d2)) xc_int (by rw [List.length_map]; rfl))) (x_or (et_not (et_B (K := K) (x_callR (xs_cons (ed_ixL (i := 0) (ed_var rfl d2) (fun _ _ => xc_int) rfl) es_nil) rfl ⟨a, by omega, rfl, rfl⟩)))
          (x_or (et_not (et_B (K := K) (x_callR (xs_cons (ed_ixL (i := 1) (ed_var rfl d2) (fun _ _ => xc_int) rfl) es_nil) rfl ⟨b, by omega, rfl, rfl⟩))) (et_of (x_eqs (K := K) (ed_ixL (i := 0) (ed_var rfl d2) (fun _ _ => xc_int) rfl) (ed_ixL (i := 1) (ed_var rfl d2) (fun _ _ => xc_int) rfl) rfl))))) ?_
        show (false || (!isNm a || (!isNm b || decide (a = b)))) = !(!decide (a = b) && (isNm a && isNm b))
        cases isNm a <;> cases isNm b <;> cases decide (a = b) <;> rfl
      · refine et_is (et_or (b := true) (c := true) (et_of (ed_neI (K := K) (ed_lenL (ed_var rfl d2)) xc_int (by rw [List.length_map, Bool.not_eq_true', decide_eq_false_iff_not]; omega))) fun z => nomatch z) ?_
        match ys, h2 with
        | [], _ => rfl
        | [_], _ => rfl
        | [_, _], h => exact absurd rfl h
        | _ :: _ :: _ :: _, _ => rfl
    · rw [Bool.not_eq_true'] at hb
      refine ret_d k (n2.trans n3) (ed_is (xc_int (i := 0)) ?_) rfl
      cases r with
      | nil => rw [wW1, if_neg (by rw [hb]; exact Bool.false_ne_true)]; rfl
      | cons y r => rw [wW2, if_neg (by rw [hb]; exact Bool.false_ne_true)]; rfl
    · rw [Bool.not_eq_false'] at hb
      have d1 := d1.up n3.a
      have n3 := n2.trans n3
      cases r with
      | nil =>
        refine qd_if n3.b (et_or (b := true) (c := true) (et_of (ed_eqI (K := K) (ed_lenL (ed_var rfl d1)) xc_int (by rw [List.length_map]; rfl))) fun z => nomatch z) (fun hb2 G4 H4 n4 => ?_) (fun z => nomatch z)
        refine ret_d k (n3.trans n4) (ed_is (xc_int (i := 1)) ?_) rfl
        rw [wW1, if_pos hb]; rfl
      | cons y r =>
        refine qd_if n3.b (et_or (b := false) (c := !prices.contains y) (et_of (ed_eqI (K := K) (ed_lenL (ed_var rfl d1)) xc_int (by rw [decide_eq_false_iff_not, List.length_map, List.length_cons, List.length_cons]; omega))) fun _ G' s' => et_of (ed_notInL (K := K) (ed_ixL (i := 1) (ed_var rfl (d1.up s')) (fun _ _ => xc_int) rfl) (ed_is (ed_lcR (n := 100) (fun _ => true) (fun d => match d with | .int i => Da.str ((toString i : String) : Str) | d => d) xc_int (by decide) fun y d G' H' s1 s2 hm dy => ?_) (congrArg Da.lst pr_list)))) (fun hb2 G4 H4 n4 => ?_) (fun hb2 G4 H4 n4 => ?_)
        · obtain ⟨c, hc, rfl⟩ := List.mem_map.mp hm
          refine ⟨_, go_name, rfl, et_yes, fun _ G2 s3 => ed_strI (ed_var rfl (dy.up s3)) ?_⟩
          exact small_int (m := (c : Int)) (by omega) (by have := List.mem_range.mp hc; omega)
        · rw [Bool.false_or, Bool.not_eq_true'] at hb2
          refine ret_d k (n3.trans n4) (ed_is (xc_int (i := 1)) ?_) rfl
          rw [wW2, if_pos hb, if_neg (by rw [hb2]; exact Bool.false_ne_true)]; rfl
        · rw [Bool.false_or, Bool.not_eq_false'] at hb2
          have d2 := d1.up n4.a
          have n4 := n3.trans n4
          refine ret_d k n4 (x_if (b := decide (r ≠ [])) (et_of (ed_gtI (K := K) (ed_lenL (ed_var rfl d2)) xc_int (by rw [decide_eq_decide, List.length_map, List.length_cons, List.length_cons]; cases r <;> simp <;> omega))) (fun hb3 => ed_is (xc_int (i := 2)) ?_) (fun hb3 => ed_is xc_non ?_)) rfl
          · rw [wW2, if_pos hb, if_pos hb2, if_neg (of_decide_eq_true hb3)]; rfl
          · rw [wW2, if_pos hb, if_pos hb2, if_pos (by have := of_decide_eq_false hb3; simpa using this)]; rfl
end
end K05

set_option Elab.async false
set_option linter.all false
set_option maxRecDepth 100000
set_option maxHeartbeats 4000000
namespace K05
open PySem PySem.Spec PyProof.Rows L2 GL
section
variable {P : Program} {w : World} {K : PySem.W.Frag} {mg : Str → Option Value} {base : Heap} {CT : Addr}
theorem sl_le (z : Str) (lo hi : Option Int) : (Txt.slice z lo hi).length ≤ z.length := by
  rw [← C8.cutS_slice]
  exact cutS_length z lo hi
def signL : List Str := [" ", ">", "a", "b", "z", "0", "1", "9", "A", "\n", "-", " 1", "> ", ",", ""]
def spBent : Sp := fun vs H Q _ => ∃ (PA c : Addr) (ns : List Int) (k g : Int) (z : Str), vs = [.ref PA, .str z] ∧ PenAt H PA c ns k g ∧ ns.length ≤ 63 ∧ k ≤ 9990 ∧ z.length ≤ 200 ∧
  ∀ y H' k' g', y.length ≤ 3 * z.length + 2 → But PA H H' → PenAt H' PA c ns k' g' → k' ≤ k + 3 → Q (.str y) H'
theorem sc_law_bent : FnScope ["_law_pen_here", "_law_line", "_law_way", "_law_spot", "_law_sign"] ["_law_pen_here", "_law_line"] (defScope s__law_bent) := ⟨rfl, rfl, rfl, by decide +kernel, rfl, by decide +kernel, by decide +kernel⟩
theorem ok_law_bent {f : Addr} {fd : FuncData} (F : Fun K "_law_bent" "_law_bent" s__law_bent f fd) (T : T5 P w K mg base CT) (F_law_draw : CalO P w K mg base 1 "_law_draw" ["_law_pen_here", "_law_many"] (spDraw 1073741824)) (F_law_pick : CalO P w K mg base 2 "_law_pick" ["_law_pen_here", "_law_some"] (spPick K)) : FnOk P w K mg base CX0 3 f fd ["_law_pen_here", "_law_line"] spBent := by
  refine F.ok sc_law_bent (fun vs H Q E h => by obtain ⟨PA, c, ns, k, g, z, rfl, _⟩ := h; rfl) fun cdv A outer s H vs Q E hr h => ?_
  obtain ⟨PA, c, ns, k, g, z, rfl, hp, hl, hk, hz, kk⟩ := h
  refine ⟨_, (pss_cons (ps_par (i := 2) (j := 3) (by rfl) sc_law_bent.nd rfl rfl (by decide) rfl rfl (pa_cons (pe_calO F_law_draw (hr.mono (by decide)) rfl (pa_cons (pv 0) (pa_cons pe_int pa_nil))) (pa_cons (pe_calO F_law_draw (hr.mono (by decide)) rfl (pa_cons (pv 0) (pa_cons (pe_op op_add (pe_callB call_len_str (by rfl) T.n_len PySem.boot_len (pa_cons (pv 1) pa_nil)) pe_int) pa_nil))) pa_nil)) (by rfl))
      (pss_cons (ps_set (i := 4) sc_law_bent.nd rfl (Or.inl rfl) (pe_calO F_law_pick (hr.mono (by decide)) rfl (pa_cons (pv 0) (pa_cons (pe_lst (pa_cons pe_str (pa_cons pe_str (pa_cons pe_str (pa_cons pe_str (pa_cons pe_str (pa_cons pe_str (pa_cons pe_str (pa_cons pe_str (pa_cons pe_str (pa_cons pe_str (pa_cons pe_str (pa_cons pe_str (pa_cons pe_str (pa_cons pe_str (pa_cons pe_str pa_nil)))))))))))))))) pa_nil))))
      (pss_cons (ps_if (pt_cmpR op_eq (pv 2) pe_int (nomark _)) (pss_one (ps_ret (pe_op op_add_str (pe_slice C8.sl_txt (pv 1) po_none (po_some (pv 3))) (pe_slice C8.sl_txt (pv 1) (po_some (pe_op op_add (pv 3) pe_int)) po_none)))) pss_nil)
      (pss_cons (ps_if (pt_cmpR op_lt (pv 2) pe_int (nomark _)) (pss_one (ps_ret (pe_op op_add_str (pe_op op_add_str (pe_slice C8.sl_txt (pv 1) po_none (po_some (pv 3))) (pv 4)) (pe_slice C8.sl_txt (pv 1) (po_some (pe_op op_sub (pe_op op_add (pv 3) (pv 2)) pe_int)) po_none)))) pss_nil)
      (pss_one (ps_ret (pe_ifExp (pt_cmpR op_eq (pv 2) pe_int (nomark _)) (pe_op op_add_str (pe_op op_add_str (pe_slice C8.sl_txt (pv 1) po_none (po_some (pv 3))) (pe_revS (pe_slice C8.sl_txt (pe_slice C8.sl_txt (pv 1) (po_some (pv 3)) po_none) po_none (po_some pe_int)))) (pe_slice C8.sl_txt (pv 1) (po_some (pe_op op_add (pv 3) pe_int)) po_none)) (pe_op op_add_str (pv 1) (pv 4))))))))), ?_⟩
  have k0 := hp.k0
  refine ⟨_, rfl, PA, c, ns, k, g, 5, rfl, hp, hl, by omega, by decide, by decide, fun r1 H1 k1 g1 a1 a2 b1 hp1 hk1 => ?_⟩
  refine ⟨_, rfl, .str z, rfl, z, rfl, sizeK (by omega), (z.length : Int), 1, rfl, rfl, PA, c, ns, k1, g1, (z.length : Int) + 1, rfl, hp1, hl, by omega, by omega, by omega, fun r2 H2 k2 g2 a3 a4 b2 hp2 hk2 => ⟨.int r1, .int r2, rfl, ?_⟩⟩
  have e0 : Same (fun _ => none : Hp) H2 := fun _ _ q => nomatch q
  have ev : Evd K _ [some (.ref PA), some (.str z), some (.int r1), some (.int r2), none] (fun _ => none) (.lst (signL.map Da.str)) := x_lst (xs_cons xc_str (xs_cons xc_str (xs_cons xc_str (xs_cons xc_str (xs_cons xc_str (xs_cons xc_str (xs_cons xc_str (xs_cons xc_str (xs_cons xc_str (xs_cons xc_str (xs_cons xc_str (xs_cons xc_str (xs_cons xc_str (xs_cons xc_str (xs_cons xc_str es_nil)))))))))))))))
  refine ⟨_, rfl, ev H2 e0 _ fun wv G3 H3 n3 dn => ?_⟩
  have hp3 := hp2.same n3.s
  have g3 : G3 PA = none := n3.n _ _ hp2.hp rfl
  refine ⟨PA, c, ns, k2, g2, wv, G3, signL.map Da.str, rfl, hp3, hl, by omega, n3.b, g3, dn, by decide, by decide, fun sv d H4 k4 g4 hd b4 hp4 hk4 dv => ?_⟩
  obtain ⟨y, hy, rfl⟩ := List.mem_map.mp hd
  cases dv
  have ly : y.length ≤ 2 := of_decide_eq_true (List.all_eq_true.mp (show signL.all (fun y => decide (y.length ≤ 2)) = true by decide +kernel) y hy)
  have all : But PA H H4 := ((b1.trans b2).trans (Same.but n3.s)).trans b4
  have s4 : Same (fun _ => none : Hp) H4 := fun _ _ q => nomatch q
  -- what is given back: any text that is not too long
  have fin : ∀ {te : TE} {o : Str} {H5 : Hp} {G5 : Hp}, Nw (fun _ => none) H4 G5 H5 → Evd K te [some (.ref PA), some (.str z), some (.int r1), some (.int r2), some (.str y)] G5 (.str o) → o.length ≤ 3 * z.length + 2 → tRet te { nx := fun _ H' => Q .non H', rt := Q } [some (.ref PA), some (.str z), some (.int r1), some (.int r2), some (.str y)] H5 := fun {te o H5 G5} n ev lo => by
    refine sd_ret n.b ev fun v G6 H6 n6 dv => ?_
    cases dv
    exact kk o H6 k4 g4 lo (all.trans (Same.but (n.s.trans n6.s))) (hp4.same (n.s.trans n6.s)) (by omega)
  have line : ∀ {G5 : Hp}, Evd K (tVar 1) [some (.ref PA), some (.str z), some (.int r1), some (.int r2), some (.str y)] G5 (.str z) := ed_var rfl (.str z)
  have sign : ∀ {G5 : Hp}, Evd K (tVar 4) [some (.ref PA), some (.str z), some (.int r1), some (.int r2), some (.str y)] G5 (.str y) := ed_var rfl (.str y)
  have upTo : ∀ {G5 : Hp}, Evd K (tSl C8.rSlX (tVar 1) tNoPart (tPart (tVar 3))) [some (.ref PA), some (.str z), some (.int r1), some (.int r2), some (.str y)] G5 (.str (Txt.slice z none (some r2))) := ed_slS line (by omega) (fun _ _ q => q) fun _ _ q => ⟨.int r2, rfl, r2, rfl, q⟩
  have h1 := sl_le z none (some r2)
  refine qd_if s4 (b := decide (r1 = 0)) (et_of (ed_eqI (K := K) (ed_var rfl (.int r1)) xc_int rfl)) (fun hb G5 H5 n5 => ?_) (fun hb G5 H5 n5 => ?_)
  · have h2 := sl_le z (some (r2 + 1)) none
    exact fin n5 (ed_catS upTo (ed_slS line (by omega) (fun _ _ q => ⟨.int r2, rfl, r2, 1, rfl, rfl, r2 + 1, rfl, q⟩) fun _ _ q => q) (by omega)) (by rw [str_len]; omega)
  refine qd_if n5.b (b := decide (r1 < 3)) (et_of (ed_gtL (K := K) (ed_var rfl (.int r1)) xc_int rfl)) (fun hb G6 H6 n6 => ?_) (fun hb G6 H6 n6 => ?_)
  · have h2 := sl_le z (some (r2 + r1 - 1)) none
    exact fin (n5.trans n6) (ed_catS (ed_catS upTo sign (by omega)) (ed_slS line (by omega) (fun _ _ q => ⟨.int r2, rfl, .int r1, rfl, r2, r1, rfl, rfl, r2 + r1, 1, rfl, rfl, r2 + r1 - 1, rfl, q⟩) fun _ _ q => q) (by rw [str_len]; omega)) (by rw [str_len, str_len]; omega)
  · have h2 := sl_le z (some r2) none
    have h3 := sl_le (Txt.slice z (some r2) none) none (some 2)
    have h4 := revT_len (Txt.slice (Txt.slice z (some r2) none) none (some 2))
    have h5 := sl_le z (some (r2 + 2)) none
    by_cases h : r1 = 3
    · refine fin (n5.trans n6) (x_if (b := true) (et_of (ed_eqI (K := K) (ed_var rfl (.int r1)) xc_int (decide_eq_true h))) (fun _ => ed_catS (ed_catS upTo (ed_revS (ed_slS (ed_slS line (by omega) (fun _ _ q => ⟨.int r2, rfl, r2, rfl, q⟩) fun _ _ q => q) (by omega) (fun _ _ q => q) fun _ _ q => ⟨2, rfl, q⟩) (by omega)) (by omega)) (ed_slS line (by omega) (fun _ _ q => ⟨.int r2, rfl, r2, 2, rfl, rfl, r2 + 2, rfl, q⟩) fun _ _ q => q) (by rw [str_len]; omega)) (fun z => nomatch z)) (by rw [str_len, str_len]; omega)
    · exact fin (n5.trans n6) (x_if (b := false) (et_of (ed_eqI (K := K) (ed_var rfl (.int r1)) xc_int (decide_eq_false h))) (fun z => nomatch z) (fun _ => ed_catS line sign (by omega))) (by rw [str_len]; omega)
end
end K05

set_option Elab.async false
set_option linter.all false
set_option maxRecDepth 100000
set_option maxHeartbeats 4000000
namespace K05
open PySem PySem.Spec PyProof.Rows L2 GL
theorem strT_eq (a b : Str) (m : Int) : strT a b m = a ++ ">" ++ b ++ " " ++ ((toString m : String) : Str) := by
  show Str.empty ++ a ++ ">" ++ b ++ " " ++ ((toString m : String) : Str) = _
  rw [Str.empty_append]
theorem join2 (s a b : Str) : Str.join s [a, b] = a ++ s ++ b := rfl
/-- a text that is right is read as a trip with just this text -/
theorem read_right (CT CB : Addr) {z : Str} (h : wrongW (Txt.split z " ") = none) : ∃ a b m, TripOk a b m ∧ readW CT CB z = .val (tripD CT a b m) ∧ strT a b m = z := by
  have pos := split_pos z " "
  have ne : Txt.split z " " ≠ [] := fun e => by rw [e] at pos; exact absurd pos (by decide)
  obtain ⟨x, y, e, hx, hy⟩ := wrong_none ne h
  obtain ⟨a, b, e2, na, nb, ab⟩ := way_parts hx
  obtain ⟨p1, p2, p3, p4, p5⟩ := price_ok y hy
  refine ⟨a, b, vOf y, ⟨na, nb, ab, p2, p3⟩, ?_, ?_⟩
  · unfold readW
    rw [h, e]
    dsimp only
    rw [e2]
  · have j1 := StrLaws.join_split z " "
    have j2 := StrLaws.join_split x ">"
    rw [e, join2] at j1
    rw [e2, join2] at j2
    rw [strT_eq, p5, j2, j1]
theorem cut_uniq {c : Nat} : ∀ {a b x y : List Nat}, c ∉ a → c ∉ b → a ++ c :: x = b ++ c :: y → a = b ∧ x = y
  | [], [], _, _, _, _, h => ⟨rfl, (List.cons.inj h).2⟩
  | [], d :: b, _, _, _, hb, h => absurd (by rw [(List.cons.inj h).1]; exact List.mem_cons_self ..) hb
  | d :: a, [], _, _, ha, _, h => absurd (by rw [← (List.cons.inj h).1]; exact List.mem_cons_self ..) ha
  | d :: a, e :: b, _, _, ha, hb, h => by
    obtain ⟨h1, h2⟩ := List.cons.inj h
    obtain ⟨h3, h4⟩ := cut_uniq (fun z => ha (List.mem_cons_of_mem _ z)) (fun z => hb (List.mem_cons_of_mem _ z)) h2
    exact ⟨by rw [h1, h3], h4⟩
theorem cat_list (a b : Str) : (a ++ b).cps.toList = a.cps.toList ++ b.cps.toList := by
  show (a.cps ++ b.cps).toList = _
  exact Array.toList_append
theorem str_of_list {a b : Str} (h : a.cps.toList = b.cps.toList) : a = b := Str.ext' (Array.toList_inj.mp h)
theorem join_more (c : Nat) (a b : Str) (r : List Str) : (Str.join ⟨#[c]⟩ (a :: b :: r)).cps.toList = a.cps.toList ++ c :: (Str.join ⟨#[c]⟩ (b :: r)).cps.toList := by
  show (a ++ ⟨#[c]⟩ ++ Str.join ⟨#[c]⟩ (b :: r)).cps.toList = _
  rw [cat_list, cat_list, List.append_assoc]
  rfl
theorem join_uniq (c : Nat) : ∀ {ps qs : List Str}, ps ≠ [] → qs ≠ [] → (∀ p ∈ ps, c ∉ p.cps.toList) → (∀ q ∈ qs, c ∉ q.cps.toList) → Str.join ⟨#[c]⟩ ps = Str.join ⟨#[c]⟩ qs → ps = qs
  | [], _, h, _, _, _, _ => absurd rfl h
  | _, [], _, h, _, _, _ => absurd rfl h
  | [p], [q], _, _, _, _, h => by rw [show p = q from h]
  | [p], q :: q2 :: r, _, _, hp, _, h => by
    have e := congrArg (fun s : Str => s.cps.toList) h
    rw [join_more] at e
    exact absurd (by rw [show p.cps.toList = _ from e]; exact List.mem_append_right _ (List.mem_cons_self ..)) (hp p (List.mem_cons_self ..))
  | p :: p2 :: r, [q], _, _, _, hq, h => by
    have e := congrArg (fun s : Str => s.cps.toList) h
    rw [join_more] at e
    exact absurd (by rw [show q.cps.toList = _ from e.symm]; exact List.mem_append_right _ (List.mem_cons_self ..)) (hq q (List.mem_cons_self ..))
  | p :: p2 :: r, q :: q2 :: r2, _, _, hp, hq, h => by
    have e := congrArg (fun s : Str => s.cps.toList) h
    rw [join_more, join_more] at e
    obtain ⟨h1, h2⟩ := cut_uniq (hp p (List.mem_cons_self ..)) (hq q (List.mem_cons_self ..)) e
    rw [str_of_list h1, join_uniq c (ps := p2 :: r) (qs := q2 :: r2) (List.cons_ne_nil _ _) (List.cons_ne_nil _ _) (fun p hp2 => hp p (List.mem_cons_of_mem _ hp2)) (fun q hq2 => hq q (List.mem_cons_of_mem _ hq2)) (str_of_list h2)]
/-- what splitting at one sign gives, from pieces without it -/
theorem split_is {c : Nat} {z : Str} {ps : List Str} (ne : ps ≠ []) (h : ∀ p ∈ ps, c ∉ p.cps.toList) (e : Str.join ⟨#[c]⟩ ps = z) : Txt.split z ⟨#[c]⟩ = ps := by
  have pos := split_pos z ⟨#[c]⟩
  exact join_uniq c (fun e => by rw [e] at pos; exact absurd pos (by decide)) ne (StrLaws.split_free z c) h ((StrLaws.join_split z ⟨#[c]⟩).trans e.symm)
theorem nm_free {a : Str} (h : isNm a = true) {c : Nat} (hc : c ∉ LET.cps.toList) : c ∉ a.cps.toList := fun z => by
  unfold isNm at h
  rw [Bool.and_eq_true] at h
  have := List.all_eq_true.mp h.2 _ (List.mem_map.mpr ⟨c, z, rfl⟩)
  exact hc (of_decide_eq_true this)
theorem way_ok {a b : Str} (ha : isNm a = true) (hb : isNm b = true) (ab : a ≠ b) : Txt.split (a ++ ">" ++ b) ">" = [a, b] ∧ isWay (a ++ ">" ++ b) = true := by
  have e : Txt.split (a ++ ">" ++ b) ">" = [a, b] := split_is (c := 62) (List.cons_ne_nil _ _) (fun p hp => by
    rcases List.mem_cons.mp hp with rfl | hp
    · exact nm_free ha (by decide +kernel)
    · rcases List.mem_cons.mp hp with rfl | hp
      · exact nm_free hb (by decide +kernel)
      · cases hp) rfl
  refine ⟨e, ?_⟩
  unfold isWay
  rw [e]
  show (!decide (a = b) && (isNm a && isNm b)) = true
  rw [ha, hb, decide_eq_false ab]
  rfl
theorem price_in {m : Int} (h0 : 0 ≤ m) (h1 : m ≤ 99) : ((toString m : String) : Str) ∈ prices ∧ vOf ((toString m : String) : Str) = m ∧ 32 ∉ ((toString m : String) : Str).cps.toList := by
  have h : (List.range 100).all (fun k : Nat => decide (((toString (k : Int) : String) : Str) ∈ prices) && (decide (vOf ((toString (k : Int) : String) : Str) = (k : Int)) && decide (32 ∉ ((toString (k : Int) : String) : Str).cps.toList))) = true := by decide +kernel
  have h := List.all_eq_true.mp h m.toNat (List.mem_range.mpr (by omega))
  rw [Int.toNat_of_nonneg h0] at h
  simp only [Bool.and_eq_true, decide_eq_true_eq] at h
  exact h
/-- the text of a trip is right, and is read as this trip -/
theorem line_right (CT CB : Addr) {a b : Str} {m : Int} (h : TripOk a b m) : wrongW (Txt.split (strT a b m) " ") = none ∧ readW CT CB (strT a b m) = .val (tripD CT a b m) := by
  obtain ⟨ha, hb, ab, h0, h1⟩ := h
  obtain ⟨p1, p2, p3⟩ := price_in h0 h1
  obtain ⟨w1, w2⟩ := way_ok ha hb ab
  have e : Txt.split (strT a b m) " " = [a ++ ">" ++ b, ((toString m : String) : Str)] := split_is (c := 32) (List.cons_ne_nil _ _) (fun p hp => by
    rcases List.mem_cons.mp hp with rfl | hp
    · rw [cat_list, cat_list]
      intro z
      rcases List.mem_append.mp z with z | z
      · rcases List.mem_append.mp z with z | z
        · exact nm_free ha (by decide +kernel) z
        · exact absurd z (by decide +kernel)
      · exact nm_free hb (by decide +kernel) z
    · rcases List.mem_cons.mp hp with rfl | hp
      · exact p3
      · cases hp) (strT_eq a b m).symm
  have ew : wrongW (Txt.split (strT a b m) " ") = none := by
    rw [e, wW2, if_pos w2, if_pos (List.contains_iff_mem.mpr p1), if_pos rfl]
  refine ⟨ew, ?_⟩
  unfold readW
  rw [ew, e]
  dsimp only
  rw [w1]
  dsimp only
  rw [p2]
section
variable {K : PySem.W.Frag} {f : Addr} {fd : FuncData}
abbrev FT (K : PySem.W.Frag) (f : Addr) (fd : FuncData) : Prop := FunD K "__init__" "Trip.__init__" (defArgs sT_init) (defBody sT_init) (defScope sT_init) [.int 1] [] f fd
theorem kb_full (F : FT K f fd) : KBn K fd ["self", "start", "goal", "price"] 4 [] (fun us _ => us) (fun vs _ => vs) := by
  obtain ⟨its, h⟩ := F.kbindsD (ps := ["self", "start", "goal", "price"]) 4 [] (fun us _ _ => us) (List.cons_ne_nil _ _) (fun r _ _ => r) fun T kV doc pm an cdv ct us its ws l1 l2 l3 => match us, its, ws, l1, l2, l3 with
    | [_, _, _, _], [_], [], _, _, _ => ⟨_, rfl, rfl⟩
  exact h
theorem kb_dfl (F : FT K f fd) : ∃ its : List Value, KBn K fd ["self", "start", "goal", "price"] 3 [] (fun us _ => us ++ its) (fun vs _ => vs ++ [.int 1]) := by
  obtain ⟨its, h⟩ := F.kbindsD (ps := ["self", "start", "goal", "price"]) 3 [] (fun us ds _ => us ++ ds) (List.cons_ne_nil _ _) (fun r d _ => r.append d) fun T kV doc pm an cdv ct us its ws l1 l2 l3 => match us, its, ws, l1, l2, l3 with
    | [_, _, _], [_], [], _, _, _ => ⟨_, rfl, rfl⟩
  exact ⟨its, h⟩
end
end K05

set_option Elab.async false
set_option linter.all false
set_option maxRecDepth 100000
set_option maxHeartbeats 4000000
namespace K05
open PySem PySem.Spec PyProof.Rows L2 GL
abbrev lawN : List Str := ["_law_script", "_law_pen_here", "_law_names", "_law_turn", "_law_one", "_law_two", "_law_much", "_law_line", "_law_bent_here", "_law_wrong_here", "_law_heard_here", "_law_odd", "_law_some", "_law_due", "_law_name_so", "_law_word"]
theorem sc_law : FnScope lawN ["_law_script"] (defScope s_law) := ⟨rfl, rfl, rfl, by decide +kernel, rfl, by decide +kernel, by decide +kernel⟩
/-- what the names of lambdas in the law begin with -/
abbrev lawQ : Str := (envOfC "law" (defScope s_law) 0 0 (.ref 0)).qual
abbrev tRead (K : PySem.W.Frag) (CT CB : Addr) (i : Nat) : XK → TE := fun E => ClX.tCMeth CT (spRead K CT CB) E (tC (.ref CT)) (tCons (tVar i) tNil)
section
variable {X : Cx} {K : PySem.W.Frag} {CT CP CB c PT : Addr} {T : List (Addr × Str)} {params : Arguments} {scope : Scope} {p lpos pos : Pos}
theorem pe_heardK {body : Expr} {t : XK → TE} (hK : X.K = K) (Z : TH X.prog X.w X.K X.mg X.base CT CP CB) (hg : Gl X "_law_heard") (TB : LamX.TabB X.base X.mg c PT) (hcode : X.env.code = .ref c) (hmT : (PT, X.env.qual ++ "<lambda>") ∈ T) (hu : ∀ p ∈ T, p.1 = PT → p.2 = X.env.qual ++ "<lambda>") (hr : Room 9 X.A) (L : LamX.LamS X.env.scope scope) (hdef : defaultsOf params X.env = ([], []))
    (hbind : ∀ (q : Str) (cl : List (Str × Addr)) (pm cv ctv : Value), bindArgs (PySem.W.kla_fn "<lambda>" q params body scope cl pm cv ctv) ⟨[], []⟩ = pure [])
    (hbody : ∀ (A : Around) (outer : List Env) (s : Shared) (H : Hp) (E : XK) (f c' : Addr), Room 7 (A.deeper (LamX.lamEnv X scope s.heap.objs.size f c')) → PE (LamX.lamCx X A outer s H E scope f c') body (t E)) :
    PE X (.Call (.Name "_law_heard" p) [.Lambda params body scope lpos] [] pos) (LamX.tLam T (THeard K CP CB) t) := by
  subst hK
  exact pe_heard Z hg TB hcode hmT hu hr L hdef hbind hbody
end
structure TLaw (P : Program) (w : World) (K : PySem.W.Frag) (mg : Str → Option Value) (base : Heap) (CT CP CB : Addr) (fI fS fE fR : Addr) (fdI fdS fdE fdR : FuncData) : Prop where
  T : T5 P w K mg base CT
  em : PySem.W.exmOne K (.ref CB) (.ref CP) = some true
  og : OGet K CB
  n1 : PySem.W.findIn K (.ref CB) "line" = some none
  n2 : PySem.W.findIn K (.ref CB) "word" = some none
  kt : PySem.W.kitOne K (.ref CB) (.ref CB) = some true
  B : TT K CT
  Z : TH P w K mg base CT CP CB
  M : Mk K CT fI
  FI : FT K fI fdI
  GI : FnOk P w K mg base CX0 4 fI fdI ["self", "start", "goal", "price"] (PiN K CT 3 Rtrip)
  GS : FnOk P w K mg base CX0 1 fS fdS ["self"] (Pr K 1 (Rstr CT))
  hS : PySem.W.findIn K (.ref CT) "__str__" = some (some (.ref fS))
  iS : PySem.W.isFn K (.ref fS) = true
  bS : Binds K fdS ["self"] []
  GE : FnOk P w K mg base CX0 1 fE fdE ["self", "other"] (Pr K 2 (Req CT))
  kE : EqK K CT fE
  bE : Binds K fdE ["self", "other"] []
  GR : FnOk P w K mg base (L2.CX P w) 7 fR fdR ["cls", "text"] (spRead K CT CB)
  rd : ∃ mc p, ClX.CRead K CT mc ∧ ClX.CMet K CT mc "read" p fR
  bR : Binds K fdR ["cls", "text"] []
  kR : KBn K fdR ["cls", "text"] 1 ["text"] (fun us ws => us ++ ws) (fun vs zs => vs ++ zs)
  pen : CalO P w K mg base 1 "_law_pen" ["_law_script"] (spPen K)
  draw : CalO P w K mg base 1 "_law_draw" ["_law_pen_here", "_law_many"] (spDraw 1073741824)
  pick : CalO P w K mg base 2 "_law_pick" ["_law_pen_here", "_law_some"] (spPick K)
  wrong : CalO P w K mg base 2 "_law_wrong" ["_law_line"] (Pr K 1 fun ds d => ∃ x : Str, x.length ≤ 800 ∧ ds = [.str x] ∧ d = oI (wrongW (Txt.split x " ")))
  bent : CalO P w K mg base 3 "_law_bent" ["_law_pen_here", "_law_line"] spBent
section
variable {P : Program} {w : World} {K : PySem.W.Frag} {mg : Str → Option Value} {base : Heap} {CT CP CB fI fS fE fR f c PT : Addr} {fdI fdS fdE fdR : FuncData} {A : Around} {outer : List Env} {s : Shared} {H : Hp} {E : XK} {T : List (Addr × Str)}
abbrev XL (P : Program) (w : World) (K : PySem.W.Frag) (mg : Str → Option Value) (base : Heap) (f c : Addr) (A : Around) (outer : List Env) (s : Shared) (H : Hp) (E : XK) : Cx := (cxOf CX0 P w K mg base lawN "law" (defScope s_law) f (.ref c) A outer s H E).nox
theorem pe_trip (L : TLaw P w K mg base CT CP CB fI fS fE fR fdI fdS fdE fdR) (hr : Room 9 (A.deeper (envOfC "law" (defScope s_law) s.heap.objs.size f (.ref c)))) {p p1 p2 p3 pos : Pos} :
    ∃ t, PE (XL P w K mg base f c A outer s H E) (.Call (.Name "Trip" p) [.Name "_law_one" p1, .Name "_law_two" p2, .Name "_law_much" p3] [] pos) t ∧ t = tMakeN CT 3 0 (PiN K CT 3 Rtrip) (fun vs _ => vs) E0 (tCons (tVar 4) (tCons (tVar 5) (tCons (tVar 6) tNil))) tNil :=
  ⟨_, pe_makeN L.M L.GI (hr.mono (by decide)) rfl L.T.m_Trip (kb_full L.FI) pass0 (pa_cons (pv 4) (pa_cons (pv 5) (pa_cons (pv 6) pa_nil))) pk_nil, rfl⟩
def forBody : List Stmt := match (defBody s_law).getD 2 (.Pass ⟨0, 0, 0, 0⟩) with
  | .For _ _ b _ _ => b
  | _ => []
theorem pss_law (L : TLaw P w K mg base CT CP CB fI fS fE fR fdI fdS fdE fdR) (TB : LamX.TabB base mg c PT) (hmT : ∀ q : Str, q = lawQ → (PT, q ++ "<lambda>") ∈ T) (hu : ∀ q : Str, q = lawQ → ∀ p ∈ T, p.1 = PT → p.2 = q ++ "<lambda>") (hr : Room 9 (A.deeper (envOfC "law" (defScope s_law) s.heap.objs.size f (.ref c)))) : ∃ t, PSs (XL P w K mg base f c A outer s H E) (defBody s_law) t := by
  obtain ⟨mc, pc, rd, cm⟩ := L.rd
  obtain ⟨its, kb3⟩ := kb_dfl L.FI
  exact ⟨_, (pss_cons (ps_set (i := 1) sc_law.nd rfl (Or.inl rfl) (pe_calO L.pen (hr.mono (by decide)) rfl (pa_cons (pv 0) pa_nil)))
      (pss_cons (ps_set (i := 2) sc_law.nd rfl (Or.inl rfl) (pe_lst (pa_cons pe_str (pa_cons pe_str (pa_cons pe_str (pa_cons pe_str (pa_cons pe_str (pa_cons pe_str (pa_cons pe_str pa_nil)))))))))
      (pss_cons (ps_for PassesOwn.never rfl (pi_range1 rfl L.T.n_range (pa_cons pe_int pa_nil)) (pg_name (i := 3) sc_law.nd rfl (Or.inl rfl)) (pss_cons (ps_set (i := 4) sc_law.nd rfl (Or.inr rfl) (pe_calO L.pick (hr.mono (by decide)) rfl (pa_cons (pv 1) (pa_cons (pv 2) pa_nil))))
      (pss_cons (ps_set (i := 5) sc_law.nd rfl (Or.inl rfl) (pe_calO L.pick (hr.mono (by decide)) rfl (pa_cons (pv 1) (pa_cons (pe_lc (own := [("_law_name_so", 14)]) (g := gName 14) rfl sc_law.nd (pi_list (pv 2)) (blkOk_by (N := lawN) (sc := defScope s_law) (by decide +kernel)) (fun _ _ _ _ _ => pg_name (i := 14) sc_law.nd rfl (Or.inl rfl)) (fun _ _ _ _ _ => (pts_one (pt_cmpR op_ne (pv 14) (pv 4) (nomark _)))) (fun _ _ _ _ _ => (pv 14))) pa_nil))))
      (pss_cons (ps_set (i := 6) sc_law.nd rfl (Or.inl rfl) (pe_calO L.pick (hr.mono (by decide)) rfl (pa_cons (pv 1) (pa_cons (pe_lst (pa_cons pe_int (pa_cons pe_int (pa_cons pe_int (pa_cons pe_int (pa_cons pe_int (pa_cons (pe_calO L.draw (hr.mono (by decide)) rfl (pa_cons (pv 1) (pa_cons pe_int pa_nil))) pa_nil))))))) pa_nil))))
      (pss_cons (ps_set (i := 7) sc_law.nd rfl (Or.inl rfl) (pe_op op_add_str (pe_op op_add_str (pe_op op_add_str (pe_op op_add_str (pv 4) pe_str) (pv 5)) pe_str) (pe_callTy call_str_int (by rfl) L.T.n_str (by decide +kernel) (pa_cons (pv 6) pa_nil))))
      (pss_cons (ps_if (PW.pt (pw_or (pt_cmpR op_ne (pe_callTy (call_strO L.GS L.hS L.iS L.bS (hr.mono (by decide))) (by rfl) L.T.n_str (by decide +kernel) (pa_cons (pe_makeN L.M L.GI (hr.mono (by decide)) rfl L.T.m_Trip (kb_full L.FI) pass0 (pa_cons (pv 4) (pa_cons (pv 5) (pa_cons (pv 6) pa_nil))) pk_nil) pa_nil)) (pv 7) (nomark _)) (pw_or1 (pt_cmpR (op_neO L.GE L.kE L.bE (hr.mono (by decide))) (pe_cmethK0 (E := E0) (pe_own L.T.m_Trip rfl) rd cm L.GR L.kR (hr.mono (by decide)) passL (pk_cons (pv 7) pk_nil)) (pe_makeN L.M L.GI (hr.mono (by decide)) rfl L.T.m_Trip (kb_full L.FI) pass0 (pa_cons (pv 4) (pa_cons (pv 5) (pa_cons (pv 6) pa_nil))) pk_nil) (nomark _))))) (pss_one (ps_ret pe_bl)) pss_nil)
      (pss_cons (ps_for PassesOwn.never rfl (pi_list (pe_lst (pa_cons (pe_calO L.bent (hr.mono (by decide)) rfl (pa_cons (pv 1) (pa_cons (pv 7) pa_nil))) (pa_cons (pe_calO L.bent (hr.mono (by decide)) rfl (pa_cons (pv 1) (pa_cons (pe_calO L.bent (hr.mono (by decide)) rfl (pa_cons (pv 1) (pa_cons (pv 7) pa_nil))) pa_nil))) pa_nil)))) (pg_name (i := 8) sc_law.nd rfl (Or.inr rfl)) (pss_cons (ps_par (i := 9) (j := 10) (by rfl) sc_law.nd rfl rfl (by decide) rfl rfl (pa_cons (pe_calO L.wrong (hr.mono (by decide)) rfl (pa_cons (pv 8) pa_nil)) (pa_cons (pe_heardK (K := K) (t := tRead K CT CB 8) rfl L.Z rfl TB rfl (hmT _ rfl) (hu _ rfl) (hr.mono (by decide)) (LamX.lamS_by (sc := defScope s_law) (by decide +kernel)) rfl (fun _ _ _ _ _ => rfl) (fun A outer s H E f c' hr2 => by exact ClX.pe_cmeth (pe_own L.T.m_Trip rfl) rd cm (fnr_of L.GR L.bR) hr2 (passes_call (takes_of rfl rfl rfl rfl) fun _ _ _ _ h => h) (pa_cons (pe_var (i := 8) rfl (Or.inr (Or.inr rfl))) pa_nil))) pa_nil)) (by rfl))
      (pss_cons (ps_if (PW.pt (pw_and (pt_cmpR op_notN1 (pv 9) pe_non (nomark _)) (pw_and1 (pt_neP (K := K) rfl hr.units (pv 10) (pe_tup (pa_cons pe_int (pa_cons (pv 9) pa_nil))))))) (pss_one (ps_ret pe_bl)) pss_nil)
      (pss_one (ps_if (PW.pt (pw_and (pt_cmpR op_isN1 (pv 9) pe_non (nomark _)) (pw_and1 (PW.pt (pw_or (pt_not (pt_val (pe_callB call_isi (by rfl) L.T.n_isinstance PyProof.Rows.boot_isinstance (pa_cons (pv 10) (pa_cons (pe_bltn (v := .ty "list") rfl L.T.n_list (by decide +kernel) rfl) pa_nil))))) (pw_or1 (pt_cmpR op_ne (pe_callTy (call_strO L.GS L.hS L.iS L.bS (hr.mono (by decide))) (by rfl) L.T.n_str (by decide +kernel) (pa_cons (pe_ix ix_list (pv 10) pe_int (fun _ _ => rfl)) pa_nil)) (pv 8) (nomark _)))))))) (pss_one (ps_ret pe_bl)) pss_nil)))))
      (pss_cons (ps_set (i := 11) sc_law.nd rfl (Or.inr rfl) (pe_calO L.pick (hr.mono (by decide)) rfl (pa_cons (pv 1) (pa_cons (pe_lst (pa_cons pe_non (pa_cons pe_int (pa_cons pe_bl (pa_cons (pe_lst (pa_cons (pv 7) pa_nil)) (pa_cons (pe_tup (pa_cons (pv 7) pa_nil)) (pa_cons pe_dnewK (pa_cons pe_str (pa_cons (pe_makeN L.M L.GI (hr.mono (by decide)) rfl L.T.m_Trip kb3 pass0 (pa_cons pe_str (pa_cons pe_str pa_nil)) pk_nil) pa_nil))))))))) pa_nil))))
      (pss_one (ps_if (pt_neP (K := K) rfl hr.units (pe_heardK (K := K) (t := tRead K CT CB 11) rfl L.Z rfl TB rfl (hmT _ rfl) (hu _ rfl) (hr.mono (by decide)) (LamX.lamS_by (sc := defScope s_law) (by decide +kernel)) rfl (fun _ _ _ _ _ => rfl) (fun A outer s H E f c' hr2 => by exact ClX.pe_cmeth (pe_own L.T.m_Trip rfl) rd cm (fnr_of L.GR L.bR) hr2 (passes_call (takes_of rfl rfl rfl rfl) fun _ _ _ _ h => h) (pa_cons (pe_var (i := 11) rfl (Or.inr (Or.inr rfl))) pa_nil))) (pe_tup (pa_cons pe_int (pa_cons pe_int pa_nil)))) (pss_one (ps_ret pe_bl)) pss_nil))))))))))
      (pss_cons (ps_set (i := 12) sc_law.nd rfl (Or.inl rfl) (pe_lst (pa_cons pe_str (pa_cons pe_str (pa_cons pe_str (pa_cons pe_str (pa_cons pe_str (pa_cons pe_str (pa_cons pe_str (pa_cons pe_str (pa_cons pe_str (pa_cons pe_str (pa_cons pe_str pa_nil)))))))))))))
      (pss_cons (ps_set (i := 13) sc_law.nd rfl (Or.inl rfl) (pe_lst (pa_cons pe_int (pa_cons pe_int (pa_cons pe_int (pa_cons pe_int (pa_cons pe_int (pa_cons pe_int (pa_cons pe_int (pa_cons pe_int (pa_cons pe_int (pa_cons pe_int (pa_cons pe_int pa_nil)))))))))))))
      (pss_one (ps_ret (pe_eqP (K := K) rfl hr.units (pe_lc (own := [("_law_line", 7)]) (g := gName 7) (tt := tYes) rfl sc_law.nd (pi_list (pv 12)) (blkOk_by (N := lawN) (sc := defScope s_law) (by decide +kernel)) (fun _ _ _ _ _ => pg_name (i := 7) sc_law.nd rfl (Or.inr rfl)) (fun _ _ _ _ _ => pts_nil) (fun _ _ _ _ _ => (pe_heardK (K := K) (t := tRead K CT CB 7) rfl L.Z rfl TB rfl (hmT _ rfl) (hu _ rfl) (hr.mono (by decide)) (LamX.lamS_by (by rfl)) rfl (fun _ _ _ _ _ => rfl) (fun A outer s H E f c' hr2 => by exact ClX.pe_cmeth (pe_own L.T.m_Trip rfl) rd cm (fnr_of L.GR L.bR) hr2 (passes_call (takes_of rfl rfl rfl rfl) fun _ _ _ _ h => h) (pa_cons (pe_var (i := 7) rfl (Or.inr (Or.inr rfl))) pa_nil))))) (pe_lc (own := [("_law_word", 15)]) (g := gName 15) (tt := tYes) rfl sc_law.nd (pi_list (pv 13)) (blkOk_by (N := lawN) (sc := defScope s_law) (by decide +kernel)) (fun _ _ _ _ _ => pg_name (i := 15) sc_law.nd rfl (Or.inl rfl)) (fun _ _ _ _ _ => pts_nil) (fun _ _ _ _ _ => (pe_tup (pa_cons pe_int (pa_cons (pv 15) pa_nil)))))))))))))⟩
end
end K05

set_option Elab.async false
set_option linter.all false
set_option maxRecDepth 100000
set_option maxHeartbeats 4000000
namespace K05
open PySem PySem.Spec PyProof.Rows L2 GL
/-- a def whose code object stands at c -/
structure FunC (K : PySem.W.Frag) (x qual : Str) (st : Stmt) (c f : Addr) (fd : FuncData) : Prop where
  ex : ∃ (oc : Value) (od : Option Addr) (kV doc pm : Value) (an : Option Addr) (ct : Value) (osl : Array (Option Value)),
    fd = PySem.W.fnOf x qual (defArgs st) (defBody st) (defScope st) .none kV doc pm an (.ref c) ct ∧ K.lookup f = some ⟨oc, od, .func fd, osl⟩ ∧ PySem.W.codeIn K (.ref c) qual = true
theorem FunC.ok {P : Program} {w : World} {K : PySem.W.Frag} {mg : Str → Option Value} {base : Heap} {x qual : Str} {st : Stmt} {c f : Addr} {fd : FuncData} {N ps : List Str} {k : Nat} {sp : Sp} (F : FunC K x qual st c f fd) (S : FnScope N ps (defScope st)) (len : ∀ vs H Q E, sp vs H Q E → vs.length = ps.length)
    (hbody : ∀ (A : Around) (outer : List Env) (s : Shared) (H : Hp) (vs : List V) (Q : VK) (E : XK), Room k (A.deeper (envOfC qual (defScope st) s.heap.objs.size f (.ref c))) → sp vs H Q E →
      ∃ t, PSs (cxOf CX0 P w K mg base N qual (defScope st) f (.ref c) A outer s H E).nox (defBody st) t ∧ t { nx := fun _ H' => Q .non H', rt := Q } (start N vs) H) : FnOk P w K mg base CX0 (k + 1) f fd ps sp := by
  obtain ⟨oc, od, kV, doc, pm, an, ct, osl, rfl, lk, hcd⟩ := F.ex
  refine fn_of lk hcd S len fun A outer s H vs Q E hr hsp => ?_
  obtain ⟨t, h, q⟩ := hbody A outer s H vs Q E hr hsp
  exact ⟨t, h.nox, q⟩
theorem tabs_but {T : List (Addr × Str)} {PA : Addr} {H H' : Hp} {xs : List V} (t : LamX.Tabs T H) (hP : H PA = some (.lst xs)) (b : But PA H H') : LamX.Tabs T H' := fun p hp => by
  obtain ⟨ps, h1, h2, h3⟩ := t p hp
  refine ⟨ps, b _ _ (fun e => by rw [e, hP] at h1; cases h1) h1, h2, fun pos cv hc => ?_⟩
  obtain ⟨c, e, h4⟩ := h3 pos cv hc
  refine ⟨c, e, b _ _ (fun e2 => ?_) h4⟩
  rw [e2, hP] at h4
  exact nomatch h4
section
variable {K : PySem.W.Frag} {CT : Addr} {σ : L2.St} {G : Hp} {te ta tb : TE} {a b a' b' : Str} {m m' : Int}
theorem ed_strO (ok : TripOk a b m) (h : Evd K te σ G (tripD CT a b m)) : Evd K (tCB (rStrO CT (Pr K 1 (Rstr CT))) (tCons te tNil)) σ G (.str (strT a b m)) := fun H e Q q => h H e _ fun v G1 H1 n1 dv => by
  cases dv with
  | ins h1 h2 h3 =>
    exact ⟨_, _, _, rfl, n1.b _ _ h1, G1, [tripD CT a b m], .str (strT a b m), n1.b, rfl, .cons (.ins h1 h2 h3) .nil, ⟨a, b, m, ok, rfl, rfl⟩, fun v G2 H2 n2 d2 => by
      cases d2
      exact ⟨⟨_, rfl⟩, q _ G2 H2 (n1.trans n2) (.str _)⟩⟩
theorem ed_neO (ha : Evd K ta σ G (tripD CT a b m)) (hb : Evd K tb σ G (tripD CT a b m)) : Evd K (tOp (rNeO CT (Pr K 2 (Req CT))) ta tb) σ G (.bl false) := ed_two ha (fun _ s => hb.up s) fun v w G' H' _ e dv dw Q k => by
  cases dv with
  | ins h1 h2 h3 => cases dw with
    | ins g1 g2 g3 =>
      exact ⟨_, _, _, _, _, _, rfl, rfl, e _ _ h1, e _ _ g1, G', [tripD CT a b m, tripD CT a b m], .bl true, e, rfl, .cons (.ins h1 h2 h3) (.cons (.ins g1 g2 g3) .nil), ⟨a, b, m, a, b, m, rfl, by simp⟩, fun v G2 H2 n2 d2 => by
        cases d2
        exact ⟨true, rfl, k _ G2 H2 n2 (.bl false)⟩⟩
theorem ed_notNo {o : Option Int} (h : Evd K te σ G (oI o)) : Evd K (tOp rNotN te (tC .non)) σ G (.bl o.isSome) := ed_two h (fun _ s => ed_c fun _ => .non) fun v w G' H' _ e dv dw Q k => by
  cases dw
  cases o with
  | none => cases dv; exact ⟨rfl, k _ G' H' (Nw.refl e) (.bl false)⟩
  | some i => cases dv; exact ⟨rfl, k _ G' H' (Nw.refl e) (.bl true)⟩
theorem ed_isNo {o : Option Int} (h : Evd K te σ G (oI o)) : Evd K (tOp rIsN te (tC .non)) σ G (.bl o.isNone) := ed_two h (fun _ s => ed_c fun _ => .non) fun v w G' H' _ e dv dw Q k => by
  cases dw
  cases o with
  | none => cases dv; exact ⟨rfl, k _ G' H' (Nw.refl e) (.bl true)⟩
  | some i => cases dv; exact ⟨rfl, k _ G' H' (Nw.refl e) (.bl false)⟩
/-- Trip(a, b, m) -/
theorem ed_trip {tA : TA} {gV : List V → List V → List V} {ds : List Da} {n : Nat} (ok : TripOk a b m) (h : Evs K tA σ G ds) (hl : ds.length = n) (hg : ∀ (p : Addr) (H' : Hp) (vs ws : List V), DRs K H' vs ds → DRs K H' ws [] → ∃ us, gV (.ref p :: vs) ws = .ref p :: us ∧ DRs K H' us [.str a, .str b, .int m]) :
    Evd K (tMakeN CT n 0 (PiN K CT 3 Rtrip) gV E0 tA tNil) σ G (tripD CT a b m) :=
  x_mkN h es_nil hl rfl [.str a, .str b, .int m] rfl hg ⟨a, b, m, ok, rfl, rfl, rfl⟩
end
/-- a pair of numbers is equal to itself alone -/
theorem eqv_pair (i j : Int) : PyData.eqv (.tuple [.int 0, .int i]) (.tuple [.int 0, .int j]) = decide (i = j) := by
  simp [PyData.eqv, PyData.eqvAll]
  by_cases h : i = j <;> simp [h]
def nameL : List Str := ["a", "b", "c", "zz", "load", "abcdefgh", "q"]
theorem nm_all : ∀ x ∈ nameL, isNm x = true := fun x hx => List.all_eq_true.mp (show nameL.all isNm = true by decide +kernel) x hx
def someL : List Str := ["a>b", "a>b ", "a>b 1 ", "a>b 1 2", "a>a 1", "a>b 01", "a>b 100", "a > b 1", ">b 1", "a>b>c 1", "a>b 1\n"]
def dueL : List Int := [1, 1, 2, 2, 0, 1, 1, 0, 0, 0, 1]
theorem some_due : someL.map (fun z => wrongW (Txt.split z " ")) = dueL.map some := by decide +kernel
end K05

set_option Elab.async false
set_option linter.all false
set_option maxRecDepth 100000
set_option maxHeartbeats 4000000
namespace K05
open PySem PySem.Spec PyProof.Rows L2 GL
def spLaw5 (K : PySem.W.Frag) (PT : Addr) : Sp := fun vs H Q _ => ∃ (a : Addr) (ns : List Int), vs = [.ref a] ∧ SqL K H a (ns.map V.int) ∧ ns.length ≤ 63 ∧ H PT = some (.tbl #[]) ∧ ∀ H', Q (.bl true) H'
section
variable {P : Program} {w : World} {K : PySem.W.Frag} {mg : Str → Option Value} {base : Heap} {CT CP CB fI fS fE fR f c PT : Addr} {fdI fdS fdE fdR fd : FuncData}
theorem same_upd2 {H : Hp} {p : Addr} {o : HO} (_s : Same H (upd H p o)) : Same (upd (fun _ => none) p o) (upd H p o) := fun b u z => by
  by_cases h : b = p
  · subst h; rw [upd_same] at z ⊢; exact z
  · rw [upd_ne h] at z; exact nomatch z
theorem others_ne : ∀ x ∈ nameL, (nameL.filter fun y => !decide (y = x)) ≠ [] := fun x hx => by
  have h := List.all_eq_true.mp (show nameL.all (fun x => !((nameL.filter fun y => !decide (y = x)).isEmpty)) = true by decide +kernel) x hx
  intro e
  rw [e] at h
  exact absurd h (by decide)
theorem names_small : ∀ x ∈ nameL, x.length ≤ 8 := fun x hx => nm_len (nm_all x hx)
def neD (one : Str) : Da → Bool
  | .str x => !decide (x = one)
  | _ => false
theorem ne_list (one : Str) : (((nameL.map Da.str).filter (neD one)).map id) = (nameL.filter fun y => !decide (y = one)).map Da.str := by
  rw [List.map_id, List.filter_map]
  rfl
theorem ed_readK {σ : L2.St} {G : Hp} {te : TE} {z : Str} {e : Da} (h : Evd K te σ G (.str z)) (hz : z.length ≤ 800) (hr : readW CT CB z = .val e) : Evd K (GL.tCMethK CT 1 (spRead K CT CB) (fun vs zs => vs ++ zs) E0 (tC (.ref CT)) (tCons te tNil)) σ G e := fun H e1 Q q =>
  ⟨rfl, h H e1 _ fun v G1 H1 n1 dv => ⟨rfl, G1, v, .str z, rfl, n1.b, dv, .str z hz, by
    rw [show readD CT CB (.str z) = .val e from hr]
    exact fun v G2 H2 n2 d2 => q v G2 H2 (n1.trans n2) d2⟩⟩
def oddL (CT : Addr) (z : Str) : List Da := [.non, .int 0, .bl true, .lst [.str z], .tup [.str z], .dct [] [], .str "", tripD CT "a" "b" 1]
theorem odd_bad {z : Str} {d : Da} (h : d ∈ oddL CT z) : May CT d ∧ readD CT CB d = errD CB 0 := by
  simp only [oddL, List.mem_cons, List.not_mem_nil, or_false] at h
  rcases h with rfl | rfl | rfl | rfl | rfl | rfl | rfl | rfl
  · exact ⟨.flat _ _ rfl (by decide +kernel), rfl⟩
  · exact ⟨.flat _ _ rfl (by decide +kernel), rfl⟩
  · exact ⟨.flat _ _ rfl (by decide +kernel), rfl⟩
  · exact ⟨.flat _ _ rfl (by decide +kernel), rfl⟩
  · exact ⟨.flat _ _ rfl (by decide +kernel), rfl⟩
  · exact ⟨.flat _ _ rfl (by decide +kernel), rfl⟩
  · refine ⟨.str _ (by decide), ?_⟩
    show readW CT CB "" = _
    unfold readW
    rw [show wrongW (Txt.split "" " ") = some 0 by decide +kernel]
  · exact ⟨.trip _ _ _, rfl⟩
theorem ok_ab : TripOk "a" "b" 1 := ⟨by decide +kernel, by decide +kernel, by decide, by decide, by decide⟩
theorem ed_dnew {σ : L2.St} {G : Hp} : Evd K tDNewK σ G (.dct [] []) := fun H e Q q p hp => by
  have m := Nw.new (o := .dK []) e hp
  exact q (.ref p) _ _ m (.dct upd_same rfl .nil)
theorem read_err {z : Str} {k : Int} (h : wrongW (Txt.split z " ") = some k) : outD (readD CT CB (.str z)) = .tup [.int 0, .int k] := by
  show outD (readW CT CB z) = _
  unfold readW
  rw [h]
  rfl
theorem outs_due : (someL.map fun z => outD (readD CT CB (.str z))) = dueL.map fun k => Da.tup [.int 0, .int k] := by
  have h := some_due
  simp only [someL, dueL, List.map_cons, List.map_nil, List.cons.injEq, and_true] at h ⊢
  obtain ⟨h1, h2, h3, h4, h5, h6, h7, h8, h9, h10, h11⟩ := h
  exact ⟨read_err h1, read_err h2, read_err h3, read_err h4, read_err h5, read_err h6, read_err h7, read_err h8, read_err h9, read_err h10, read_err h11⟩
def pairD : Da → Da
  | .int k => .tup [.int 0, .int k]
  | d => d
def pairsP : PyData := .list (dueL.map fun k => .tuple [.int 0, .int k])
theorem ok_law (F : FunC K "law" "law" s_law c f fd) (L : TLaw P w K mg base CT CP CB fI fS fE fR fdI fdS fdE fdR) (TB : LamX.TabB base mg c PT) : FnOk P w K mg base CX0 10 f fd ["_law_script"] (spLaw5 K PT) := by
  obtain ⟨mc, pc, rd, cm⟩ := L.rd
  obtain ⟨its, kb3⟩ := kb_dfl L.FI
  have hmT : ∀ q : Str, q = lawQ → (PT, q ++ "<lambda>") ∈ [(PT, lawQ ++ "<lambda>")] := fun q e => by rw [e]; exact List.mem_singleton.mpr rfl
  have hu : ∀ q : Str, q = lawQ → ∀ p ∈ [(PT, lawQ ++ "<lambda>")], p.1 = PT → p.2 = q ++ "<lambda>" := fun q e p hp _ => by rw [List.mem_singleton.mp hp, e]
  refine F.ok sc_law (fun vs H Q E h => by obtain ⟨a, ns, rfl, _⟩ := h; rfl) fun A outer s H vs Q E hr h => ?_
  obtain ⟨a, ns, rfl, ha, hl, hT, fin⟩ := h
  refine ⟨_, (pss_cons (ps_set (i := 1) sc_law.nd rfl (Or.inl rfl) (pe_calO L.pen (hr.mono (by decide)) rfl (pa_cons (pv 0) pa_nil)))
      (pss_cons (ps_set (i := 2) sc_law.nd rfl (Or.inl rfl) (pe_lst (pa_cons pe_str (pa_cons pe_str (pa_cons pe_str (pa_cons pe_str (pa_cons pe_str (pa_cons pe_str (pa_cons pe_str pa_nil)))))))))
      (pss_cons (ps_for PassesOwn.never rfl (pi_range1 rfl L.T.n_range (pa_cons pe_int pa_nil)) (pg_name (i := 3) sc_law.nd rfl (Or.inl rfl)) (pss_cons (ps_set (i := 4) sc_law.nd rfl (Or.inr rfl) (pe_calO L.pick (hr.mono (by decide)) rfl (pa_cons (pv 1) (pa_cons (pv 2) pa_nil))))
      (pss_cons (ps_set (i := 5) sc_law.nd rfl (Or.inl rfl) (pe_calO L.pick (hr.mono (by decide)) rfl (pa_cons (pv 1) (pa_cons (pe_lc (own := [("_law_name_so", 14)]) (g := gName 14) rfl sc_law.nd (pi_list (pv 2)) (blkOk_by (N := lawN) (sc := defScope s_law) (by decide +kernel)) (fun _ _ _ _ _ => pg_name (i := 14) sc_law.nd rfl (Or.inl rfl)) (fun _ _ _ _ _ => (pts_one (pt_cmpR op_ne (pv 14) (pv 4) (nomark _)))) (fun _ _ _ _ _ => (pv 14))) pa_nil))))
      (pss_cons (ps_set (i := 6) sc_law.nd rfl (Or.inl rfl) (pe_calO L.pick (hr.mono (by decide)) rfl (pa_cons (pv 1) (pa_cons (pe_lst (pa_cons pe_int (pa_cons pe_int (pa_cons pe_int (pa_cons pe_int (pa_cons pe_int (pa_cons (pe_calO L.draw (hr.mono (by decide)) rfl (pa_cons (pv 1) (pa_cons pe_int pa_nil))) pa_nil))))))) pa_nil))))
      (pss_cons (ps_set (i := 7) sc_law.nd rfl (Or.inl rfl) (pe_op op_add_str (pe_op op_add_str (pe_op op_add_str (pe_op op_add_str (pv 4) pe_str) (pv 5)) pe_str) (pe_callTy call_str_int (by rfl) L.T.n_str (by decide +kernel) (pa_cons (pv 6) pa_nil))))
      (pss_cons (ps_if (PW.pt (pw_or (pt_cmpR op_ne (pe_callTy (call_strO L.GS L.hS L.iS L.bS (hr.mono (by decide))) (by rfl) L.T.n_str (by decide +kernel) (pa_cons (pe_makeN L.M L.GI (hr.mono (by decide)) rfl L.T.m_Trip (kb_full L.FI) pass0 (pa_cons (pv 4) (pa_cons (pv 5) (pa_cons (pv 6) pa_nil))) pk_nil) pa_nil)) (pv 7) (nomark _)) (pw_or1 (pt_cmpR (op_neO L.GE L.kE L.bE (hr.mono (by decide))) (pe_cmethK0 (E := E0) (pe_own L.T.m_Trip rfl) rd cm L.GR L.kR (hr.mono (by decide)) passL (pk_cons (pv 7) pk_nil)) (pe_makeN L.M L.GI (hr.mono (by decide)) rfl L.T.m_Trip (kb_full L.FI) pass0 (pa_cons (pv 4) (pa_cons (pv 5) (pa_cons (pv 6) pa_nil))) pk_nil) (nomark _))))) (pss_one (ps_ret pe_bl)) pss_nil)
      (pss_cons (ps_for PassesOwn.never rfl (pi_list (pe_lst (pa_cons (pe_calO L.bent (hr.mono (by decide)) rfl (pa_cons (pv 1) (pa_cons (pv 7) pa_nil))) (pa_cons (pe_calO L.bent (hr.mono (by decide)) rfl (pa_cons (pv 1) (pa_cons (pe_calO L.bent (hr.mono (by decide)) rfl (pa_cons (pv 1) (pa_cons (pv 7) pa_nil))) pa_nil))) pa_nil)))) (pg_name (i := 8) sc_law.nd rfl (Or.inr rfl)) (pss_cons (ps_par (i := 9) (j := 10) (by rfl) sc_law.nd rfl rfl (by decide) rfl rfl (pa_cons (pe_calO L.wrong (hr.mono (by decide)) rfl (pa_cons (pv 8) pa_nil)) (pa_cons (pe_heardK (K := K) (t := tRead K CT CB 8) rfl L.Z rfl TB rfl (hmT _ rfl) (hu _ rfl) (hr.mono (by decide)) (LamX.lamS_by (sc := defScope s_law) (by decide +kernel)) rfl (fun _ _ _ _ _ => rfl) (fun A outer s H E f c' hr2 => by exact ClX.pe_cmeth (pe_own L.T.m_Trip rfl) rd cm (fnr_of L.GR L.bR) hr2 (passes_call (takes_of rfl rfl rfl rfl) fun _ _ _ _ h => h) (pa_cons (pe_var (i := 8) rfl (Or.inr (Or.inr rfl))) pa_nil))) pa_nil)) (by rfl))
      (pss_cons (ps_if (PW.pt (pw_and (pt_cmpR op_notN1 (pv 9) pe_non (nomark _)) (pw_and1 (pt_neP (K := K) rfl hr.units (pv 10) (pe_tup (pa_cons pe_int (pa_cons (pv 9) pa_nil))))))) (pss_one (ps_ret pe_bl)) pss_nil)
      (pss_one (ps_if (PW.pt (pw_and (pt_cmpR op_isN1 (pv 9) pe_non (nomark _)) (pw_and1 (PW.pt (pw_or (pt_not (pt_val (pe_callB call_isi (by rfl) L.T.n_isinstance PyProof.Rows.boot_isinstance (pa_cons (pv 10) (pa_cons (pe_bltn (v := .ty "list") rfl L.T.n_list (by decide +kernel) rfl) pa_nil))))) (pw_or1 (pt_cmpR op_ne (pe_callTy (call_strO L.GS L.hS L.iS L.bS (hr.mono (by decide))) (by rfl) L.T.n_str (by decide +kernel) (pa_cons (pe_ix ix_list (pv 10) pe_int (fun _ _ => rfl)) pa_nil)) (pv 8) (nomark _)))))))) (pss_one (ps_ret pe_bl)) pss_nil)))))
      (pss_cons (ps_set (i := 11) sc_law.nd rfl (Or.inr rfl) (pe_calO L.pick (hr.mono (by decide)) rfl (pa_cons (pv 1) (pa_cons (pe_lst (pa_cons pe_non (pa_cons pe_int (pa_cons pe_bl (pa_cons (pe_lst (pa_cons (pv 7) pa_nil)) (pa_cons (pe_tup (pa_cons (pv 7) pa_nil)) (pa_cons pe_dnewK (pa_cons pe_str (pa_cons (pe_makeN L.M L.GI (hr.mono (by decide)) rfl L.T.m_Trip kb3 pass0 (pa_cons pe_str (pa_cons pe_str pa_nil)) pk_nil) pa_nil))))))))) pa_nil))))
      (pss_one (ps_if (pt_neP (K := K) rfl hr.units (pe_heardK (K := K) (t := tRead K CT CB 11) rfl L.Z rfl TB rfl (hmT _ rfl) (hu _ rfl) (hr.mono (by decide)) (LamX.lamS_by (sc := defScope s_law) (by decide +kernel)) rfl (fun _ _ _ _ _ => rfl) (fun A outer s H E f c' hr2 => by exact ClX.pe_cmeth (pe_own L.T.m_Trip rfl) rd cm (fnr_of L.GR L.bR) hr2 (passes_call (takes_of rfl rfl rfl rfl) fun _ _ _ _ h => h) (pa_cons (pe_var (i := 11) rfl (Or.inr (Or.inr rfl))) pa_nil))) (pe_tup (pa_cons pe_int (pa_cons pe_int pa_nil)))) (pss_one (ps_ret pe_bl)) pss_nil))))))))))
      (pss_cons (ps_set (i := 12) sc_law.nd rfl (Or.inl rfl) (pe_lst (pa_cons pe_str (pa_cons pe_str (pa_cons pe_str (pa_cons pe_str (pa_cons pe_str (pa_cons pe_str (pa_cons pe_str (pa_cons pe_str (pa_cons pe_str (pa_cons pe_str (pa_cons pe_str pa_nil)))))))))))))
      (pss_cons (ps_set (i := 13) sc_law.nd rfl (Or.inl rfl) (pe_lst (pa_cons pe_int (pa_cons pe_int (pa_cons pe_int (pa_cons pe_int (pa_cons pe_int (pa_cons pe_int (pa_cons pe_int (pa_cons pe_int (pa_cons pe_int (pa_cons pe_int (pa_cons pe_int pa_nil)))))))))))))
      (pss_one (ps_ret (pe_eqP (K := K) rfl hr.units (pe_lc (own := [("_law_line", 7)]) (g := gName 7) (tt := tYes) rfl sc_law.nd (pi_list (pv 12)) (blkOk_by (N := lawN) (sc := defScope s_law) (by decide +kernel)) (fun _ _ _ _ _ => pg_name (i := 7) sc_law.nd rfl (Or.inr rfl)) (fun _ _ _ _ _ => pts_nil) (fun _ _ _ _ _ => (pe_heardK (K := K) (t := tRead K CT CB 7) rfl L.Z rfl TB rfl (hmT _ rfl) (hu _ rfl) (hr.mono (by decide)) (LamX.lamS_by (by rfl)) rfl (fun _ _ _ _ _ => rfl) (fun A outer s H E f c' hr2 => by exact ClX.pe_cmeth (pe_own L.T.m_Trip rfl) rd cm (fnr_of L.GR L.bR) hr2 (passes_call (takes_of rfl rfl rfl rfl) fun _ _ _ _ h => h) (pa_cons (pe_var (i := 7) rfl (Or.inr (Or.inr rfl))) pa_nil))))) (pe_lc (own := [("_law_word", 15)]) (g := gName 15) (tt := tYes) rfl sc_law.nd (pi_list (pv 13)) (blkOk_by (N := lawN) (sc := defScope s_law) (by decide +kernel)) (fun _ _ _ _ _ => pg_name (i := 15) sc_law.nd rfl (Or.inl rfl)) (fun _ _ _ _ _ => pts_nil) (fun _ _ _ _ _ => (pe_tup (pa_cons pe_int (pa_cons (pv 15) pa_nil))))))))))))), ?_⟩
  have T0 : LamX.Tabs [(PT, lawQ ++ "<lambda>")] H := fun p hp => by rw [List.mem_singleton.mp hp]; exact LamX.TabS.nil hT
  refine ⟨_, rfl, a, ns, rfl, ha, hl, fun PA c0 H1 s1 hP hc hp => ?_⟩
  have T1 := T0.ext s1
  have s0 : Same (fun _ => none : Hp) H1 := fun _ _ z => nomatch z
  refine qd_asg (K := K) (d := .lst (nameL.map Da.str)) s0 (x_lst (xs_cons xc_str (xs_cons xc_str (xs_cons xc_str (xs_cons xc_str (xs_cons xc_str (xs_cons xc_str (xs_cons xc_str es_nil)))))))) fun vn G1 H2 n1 dn => ?_
  have T2 := T1.ext n1.s
  have hp2 := hp.same n1.s
  obtain ⟨G1, sG1, dn, gP, nt1⟩ : ∃ GC : Hp, Same GC H2 ∧ DR K GC vn (.lst (nameL.map Da.str)) ∧ GC PA = none ∧ ∀ b o, GC b = some o → ∀ ps, o ≠ .tbl ps := ⟨clean G1, (clean_same G1).trans n1.b, DR.cl _ dn, clean_none (n1.n _ _ hp.hp rfl), fun b o e => (of_clean e).2⟩
  refine ⟨12, rfl, by decide, by decide, for_range (lo := 0) (n := 12) (fun i σ' H' => (∃ x3 x4 x5 x6 x7 x8 x9 x10 x11 x12 x13 x14 x15, σ' = [some (.ref a), some (.ref PA), some vn, x3, x4, x5, x6, x7, x8, x9, x10, x11, x12, x13, x14, x15]) ∧ Same G1 H' ∧ LamX.Tabs [(PT, lawQ ++ "<lambda>")] H' ∧ ∃ k g, PenAt H' PA c0 ns k g ∧ k ≤ 40 * i) ⟨⟨_, _, _, _, _, _, _, _, _, _, _, _, _, rfl⟩, sG1, T2, 0, 0, hp2, by decide⟩ (fun i σ' H' hi j => ?_) (fun σ' H' j => ?_)⟩
  · obtain ⟨⟨x3, x4, x5, x6, x7, x8, x9, x10, x11, x12, x13, x14, x15, rfl⟩, sG, hT, k, g, hp, hk⟩ := j
    have k0 := hp.k0
    refine ⟨_, rfl, _, rfl, PA, c0, ns, k, g, vn, G1, nameL.map Da.str, rfl, hp, hl, by omega, sG, gP, dn, by decide, by decide, fun v1 d1 H3 k1 g1 hd1 b1 hp1 hk1 dv1 => ?_⟩
    obtain ⟨one, hone, rfl⟩ := List.mem_map.mp hd1
    cases dv1
    have sG := b1.same sG gP
    have hT := tabs_but hT hp.hp b1
    have ev : Evd K (tLc (iList K (tVar 2)) (gName 14) (tTest (tOp rNe (tVar 14) (tVar 4))) (tVar 14) [14]) [some (.ref a), some (.ref PA), some vn, some (.int (0 + i)), some (.str one), x5, x6, x7, x8, x9, x10, x11, x12, x13, x14, x15] G1 (.lst ((nameL.filter fun y => !decide (y = one)).map Da.str)) := ed_is (ed_lc (neD one) id (ed_var rfl dn) (by decide) fun y d G' H' s1 s2 hm dy => by
      obtain ⟨x, hx, rfl⟩ := List.mem_map.mp hm
      exact ⟨_, go_name, rfl, et_of (x_nes (ed_var rfl dy) (ed_var rfl (.str one)) rfl), fun _ G2 s3 => ed_var rfl (dy.up s3)⟩) (congrArg Da.lst (ne_list one))
    refine ⟨_, rfl, ev H3 sG _ fun w2 G4 H4 n4 d4 => ?_⟩
    have hp4 := hp1.same n4.s
    refine ⟨PA, c0, ns, k1, g1, w2, G4, _, rfl, hp4, hl, by omega, n4.b, n4.n _ _ hp1.hp gP, d4, fun e => others_ne one hone (List.map_eq_nil_iff.mp e), by rw [List.length_map]; exact Nat.le_trans (List.length_filter_le _ _) (by decide), fun v2 d2 H5 k2 g2 hd2 b2 hp5 hk2 dv2 => ?_⟩
    obtain ⟨two, htwo, rfl⟩ := List.mem_map.mp hd2
    obtain ⟨htwo, hne⟩ := List.mem_filter.mp htwo
    have hne : one ≠ two := fun e => by rw [e] at hne; simp at hne
    cases dv2
    have sG := b2.same (sG.trans n4.s) gP
    have hT := tabs_but (hT.ext n4.s) hp4.hp b2
    refine ⟨_, rfl, _, rfl, PA, c0, ns, k2, g2, 100, rfl, hp5, hl, by omega, by decide, by decide, fun r H6 k3 g3 a1 a2 b3 hp6 hk3 => ⟨by show 6 ≤ sizeLine; decide, fun pl hpl => ?_⟩⟩
    have s7 : Same H6 (upd H6 pl (.lst [.int 0, .int 1, .int 9, .int 10, .int 99, .int r])) := same_upd (Same.refl H6) hpl
    have hp7 := hp6.same s7
    refine ⟨PA, c0, ns, k3, g3, .ref pl, upd (fun _ => none) pl (.lst [.int 0, .int 1, .int 9, .int 10, .int 99, .int r]), [.int 0, .int 1, .int 9, .int 10, .int 99, .int r], rfl, hp7, hl, by omega, same_upd2 s7, by rw [upd_ne (ne_of_none hp6.hp hpl)], .lst upd_same (.cons (.int _) (.cons (.int _) (.cons (.int _) (.cons (.int _) (.cons (.int _) (.cons (.int _) .nil)))))), by simp, Nat.le_of_ble_eq_true rfl, fun v3 d3 H8 k4 g4 hd3 b4 hp8 hk4 dv3 => ?_⟩
    obtain ⟨m, rfl, m0, m1⟩ : ∃ m, d3 = .int m ∧ 0 ≤ m ∧ m ≤ 99 := by
      simp only [List.mem_cons, List.not_mem_nil, or_false] at hd3
      rcases hd3 with rfl | rfl | rfl | rfl | rfl | rfl
      all_goals exact ⟨_, rfl, by omega, by omega⟩
    cases dv3
    have sG := b4.same ((b3.same sG gP).trans s7) gP
    have hT := tabs_but ((tabs_but hT hp5.hp b3).ext s7) hp7.hp b4
    have ok : TripOk one two m := ⟨nm_all one hone, nm_all two htwo, hne, m0, m1⟩
    obtain ⟨lw, lr⟩ := line_right CT CB ok
    have l1 := names_small one hone
    have l2 := names_small two htwo
    have l3 := int_len m0 m1
    have e1 : (">" : Str).length = 1 := by decide
    have e2 : (" " : Str).length = 1 := by decide
    have ll : (strT one two m).length ≤ 20 := by rw [strT_eq, str_len, str_len, str_len, str_len, e1, e2]; omega
    have s8 : Same (fun _ => none : Hp) H8 := fun _ _ z => nomatch z
    refine qd_asg (K := K) (d := .str (strT one two m)) s8 (ed_is (ed_catS (ed_catS (ed_catS (ed_catS (ed_var (i := 4) rfl (.str one)) xc_str (by rw [e1]; omega)) (ed_var (i := 5) rfl (.str two)) (by rw [str_len, e1]; omega)) xc_str (by rw [str_len, str_len, e1, e2]; omega)) (ed_strI (ed_var (i := 6) rfl (.int m)) (small_int m0 m1)) (by rw [str_len, str_len, str_len, e1, e2]; omega)) (by rw [strT_eq])) fun v7 G9 H9 n9 d9 => ?_
    cases d9
    have trip : Evd K _ [some (.ref a), some (.ref PA), some vn, some (.int (0 + i)), some (.str one), some (.str two), some (.int m), some (.str (strT one two m)),  x8, x9, x10, x11, x12, x13, x14, x15] G9 (tripD CT one two m) := ed_trip (gV := fun vs _ => vs) (n := 3) ok (xs_cons (ed_var (i := 4) rfl (.str one)) (xs_cons (ed_var (i := 5) rfl (.str two)) (xs_cons (ed_var (i := 6) rfl (.int m)) es_nil))) rfl fun p H' vs ws r1 r2 => ⟨vs, rfl, r1⟩
    refine qd_if n9.b (b := false) (x_or (b := false) (c := false) (et_of (x_nes (ed_strO ok trip) (ed_var (i := 7) rfl (.str _)) (by simp))) (et_of (ed_neO (ed_readK (ed_var (i := 7) rfl (.str _)) (by omega) lr) trip))) (fun z => nomatch z) fun _ GA HA nA => ?_
    have hp9 := hp8.same (n9.s.trans nA.s)
    have sG := sG.trans (n9.s.trans nA.s)
    have hT := hT.ext (n9.s.trans nA.s)
    refine ⟨_, rfl, _, rfl, PA, c0, ns, k4, g4, strT one two m, rfl, hp9, hl, by omega, by omega, fun y1 HB k5 g5 ly1 b5 hpB hk5 => ?_⟩
    refine ⟨_, rfl, _, rfl, _, rfl, PA, c0, ns, k5, g5, strT one two m, rfl, hpB, hl, by omega, by omega, fun y2 HC k6 g6 ly2 b6 hpC hk6 => ?_⟩
    refine ⟨PA, c0, ns, k6, g6, y2, rfl, hpC, hl, by omega, by omega, fun y3 HD k7 g7 ly3 b7 hpD hk7 => ⟨by show 2 ≤ sizeLine; decide, fun pb hpb => ?_⟩⟩
    have bD : But PA HA HD := (b5.trans b6).trans b7
    have sD : Same HD (upd HD pb (.lst [.str y1, .str y3])) := same_upd (Same.refl _) hpb
    have hpE := hpD.same sD
    have sG := (bD.same sG gP).trans sD
    have hT := (tabs_but hT hp9.hp bD).ext sD
    refine ⟨pb, rfl, ⟨[.str y1, .str y3], SqL.of upd_same⟩, for_list (xs := [.str y1, .str y3]) (fun j σ' H' => (∃ x8 x9 x10, σ' = [some (.ref a), some (.ref PA), some vn, some (.int (0 + i)), some (.str one), some (.str two), some (.int m), some (.str (strT one two m)), x8, x9, x10, x11, x12, x13, x14, x15]) ∧ Same G1 H' ∧ LamX.Tabs [(PT, lawQ ++ "<lambda>")] H' ∧ H' pb = some (.lst [.str y1, .str y3]) ∧ PenAt H' PA c0 ns k7 g7) ⟨⟨_, _, _, rfl⟩, sG, hT, upd_same, hpE⟩ (fun j σ' H' hj q => SqL.of q.2.2.2.1) (fun j x σ' H' hx q => ?_) (fun σ' H' q => ?_)⟩
    · obtain ⟨⟨x8, x9, x10, rfl⟩, sG, hT, hb, hpE⟩ := q
      obtain ⟨z, rfl, hz⟩ : ∃ z : Str, x = .str z ∧ z.length ≤ 190 := by
        rcases j with _ | _ | j
        · exact ⟨y1, (Option.some.inj hx).symm, by omega⟩
        · exact ⟨y3, (Option.some.inj hx).symm, by omega⟩
        · exact absurd hx (by simp)
      have se : Same (fun _ => none : Hp) H' := fun _ _ z => nomatch z
      refine x_callR (K := K) (G := fun _ => none) (d := oI (wrongW (Txt.split z " "))) (xs_cons (ed_var (i := 8) rfl (.str z)) es_nil) rfl ⟨z, by omega, rfl, rfl⟩ H' se _ fun v9 G2 H2 n2 d9 => ?_
      have hT := hT.ext n2.s
      have se : Same (fun _ => none : Hp) H2 := fun _ _ z => nomatch z
      refine heard_d (K := K) (G := fun _ => none) (i := 8) (d := .str z) se hT rfl (.str z) (.str z (by omega)) L.em L.og L.n1 L.n2 L.kt fun v10 G3 H3 nt d10 => ⟨v9, v10, rfl, ?_⟩
      have keep : ∀ b o, H' b = some o → (∀ ps, o ≠ .tbl ps) → H3 b = some o := fun b o e n => nt.x _ _ (n2.s _ _ e) n
      have fin2 : ∀ {GX HX : Hp}, Nw G3 H3 GX HX → (∃ x8 x9 x10, [some (.ref a), some (.ref PA), some vn, some (.int (0 + i)), some (.str one), some (.str two), some (.int m), some (.str (strT one two m)), some (.str z), some v9, some v10, x11, x12, x13, x14, x15] = [some (.ref a), some (.ref PA), some vn, some (.int (0 + i)), some (.str one), some (.str two), some (.int m), some (.str (strT one two m)), x8, x9, x10, x11, x12, x13, x14, x15]) ∧ Same G1 HX ∧ LamX.Tabs [(PT, lawQ ++ "<lambda>")] HX ∧ HX pb = some (.lst [.str y1, .str y3]) ∧ PenAt HX PA c0 ns k7 g7 := fun {GX HX} n =>
        ⟨⟨_, _, _, rfl⟩, fun b o e => n.s _ _ (keep b o (sG b o e) (nt1 b o e)), nt.t.ext n.s, n.s _ _ (keep _ _ hb fun _ z => nomatch z), ⟨n.s _ _ (keep _ _ hpE.hp fun _ z => nomatch z), n.s _ _ (keep _ _ hpE.hc fun _ z => nomatch z), hpE.ne, hpE.k0, hpE.g0⟩⟩
      cases hw : wrongW (Txt.split z " ") with
      | some k0 =>
        rw [hw] at d9
        cases d9
        have er : readD CT CB (.str z) = errD CB k0 := by
          show readW CT CB z = _
          unfold readW
          rw [hw]
        rw [er] at d10
        have d10 : DR K G3 v10 (.tup [.int 0, .int k0]) := d10
        refine qd_if nt.b (b := false) (x_and (b := true) (c := false) (et_of (ed_notNo (K := K) (o := some k0) (ed_var (i := 9) rfl (.int k0)))) (et_of (x_neP (p := .tuple [.int 0, .int k0]) (q := .tuple [.int 0, .int k0]) (ed_var (i := 10) rfl d10) (x_tup (xs_cons xc_int (xs_cons (ed_var (i := 9) rfl (.int k0)) es_nil))) rfl rfl rfl rfl rfl rfl (Nat.le_of_ble_eq_true rfl) (by rw [eqv_pair]; simp)))) (fun z => nomatch z) fun _ G4 H4 n4 => ?_
        exact sd_if n4.b (b := false) (et_and (b := false) (c := false) (et_of (ed_isNo (K := K) (o := some k0) (ed_var (i := 9) rfl (.int k0)))) fun z => nomatch z) (fun z => nomatch z) fun _ G5 H5 n5 => fin2 (n4.trans n5)
      | none =>
        rw [hw] at d9
        cases d9
        obtain ⟨a', b', m', ok', rr, er⟩ := read_right CT CB hw
        have er2 : readD CT CB (.str z) = .val (tripD CT a' b' m') := rr
        rw [er2] at d10
        have d10 : DR K G3 v10 (.lst [tripD CT a' b' m']) := d10
        refine qd_if nt.b (b := false) (et_and (b := false) (c := false) (et_of (ed_notNo (K := K) (o := none) (ed_var (i := 9) rfl .non))) fun z => nomatch z) (fun z => nomatch z) fun _ G4 H4 n4 => ?_
        have d10 := d10.up n4.a
        exact sd_if n4.b (b := false) (x_and (b := true) (c := false) (et_of (ed_isNo (K := K) (o := none) (ed_var (i := 9) rfl .non))) (x_or (b := false) (c := false) (et_not (b := true) (et_B (ed_isi (ed_var (i := 10) rfl d10) rfl (by decide +kernel)))) (et_of (x_nes (ed_strO ok' (ed_ixL (i := 0) (ed_var (i := 10) rfl d10) (fun _ _ => xc_int) rfl)) (ed_var (i := 8) rfl (.str z)) (by rw [er]; simp))))) (fun z => nomatch z) fun _ G5 H5 n5 => fin2 (n4.trans n5)
    · obtain ⟨⟨x8, x9, x10, rfl⟩, sG, hT, hb, hpE⟩ := q
      have se : Same (fun _ => none : Hp) H' := fun _ _ z => nomatch z
      have evo : Evd K (tLst (tCons (tC .non) (tCons (tC (.int 0)) (tCons (tC (.bl true)) (tCons (tLst (tCons (tVar 7) tNil)) (tCons (tTup (tCons (tVar 7) tNil)) (tCons tDNewK (tCons (tC (.str "")) (tCons (tMakeN CT 2 0 (PiN K CT 3 Rtrip) (fun vs _ => vs ++ [.int 1]) E0 (tCons (tC (.str "a")) (tCons (tC (.str "b")) tNil)) tNil) tNil))))))))) [some (.ref a), some (.ref PA), some vn, some (.int (0 + i)), some (.str one), some (.str two), some (.int m), some (.str (strT one two m)), x8, x9, x10, x11, x12, x13, x14, x15] (fun _ => none) (.lst (oddL CT (strT one two m))) :=
        x_lst (xs_cons xc_non (xs_cons xc_int (xs_cons (ed_c fun _ => .bl true) (xs_cons (x_lst (xs_cons (ed_var (i := 7) rfl (.str _)) es_nil)) (xs_cons (x_tup (xs_cons (ed_var (i := 7) rfl (.str _)) es_nil)) (xs_cons ed_dnew (xs_cons xc_str (xs_cons (ed_trip ok_ab (xs_cons xc_str (xs_cons xc_str es_nil)) rfl fun p H' vs ws r1 r2 => by
          obtain ⟨u1, u2, rfl, e1, e2⟩ := two_of r1
          exact ⟨[u1, u2, .int 1], rfl, .cons e1 (.cons e2 (.cons (.int 1) .nil))⟩) es_nil))))))))
      refine ⟨_, rfl, evo H' se _ fun w5 G5 H5 n5 d5 => ?_⟩
      have hp5' := hpE.same n5.s
      have g5P : G5 PA = none := n5.n _ _ hpE.hp rfl
      refine ⟨PA, c0, ns, k7, g7, w5, G5, oddL CT (strT one two m), rfl, hp5', hl, by omega, n5.b, g5P, d5, List.cons_ne_nil _ _, Nat.le_of_ble_eq_true rfl, fun v11 d11 H6 k8 g8 hd11 b8 hp8 hk8 dv11 => ?_⟩
      obtain ⟨my, er⟩ := odd_bad (CB := CB) hd11
      have s6 : Same G5 H6 := b8.same n5.b g5P
      have hT := tabs_but (hT.ext n5.s) hp5'.hp b8
      have sG := b8.same (sG.trans n5.s) gP
      refine heard_d (K := K) (G := G5) (i := 11) (d := d11) s6 hT rfl dv11 my L.em L.og L.n1 L.n2 L.kt fun v12 G7 H7 nt d12 => ?_
      rw [er] at d12
      have d12 : DR K G7 v12 (.tup [.int 0, .int 0]) := d12
      have evv : ∀ σ : L2.St, Evd K (tC v12) σ G7 (.tup [.int 0, .int 0]) := fun σ H e Q q => q v12 G7 H (Nw.refl e) d12
      refine (et_of (x_neP (K := K) (b := false) (p := .tuple [.int 0, .int 0]) (q := .tuple [.int 0, .int 0]) (evv []) (x_tup (xs_cons xc_int (xs_cons xc_int es_nil))) rfl rfl rfl rfl rfl rfl (Nat.le_of_ble_eq_true rfl) (by rw [eqv_pair]; simp))) H7 nt.b _ fun G8 H8 n8 => ?_
      exact ⟨⟨_, _, _, _, _, _, _, _, _, _, _, _, _, rfl⟩, fun b o e => n8.s _ _ (nt.x _ _ (sG b o e) (nt1 b o e)), nt.t.ext n8.s, k8, g8, ⟨n8.s _ _ (nt.x _ _ hp8.hp fun _ z => nomatch z), n8.s _ _ (nt.x _ _ hp8.hc fun _ z => nomatch z), hp8.ne, hp8.k0, hp8.g0⟩, by omega⟩
  · obtain ⟨⟨x3, x4, x5, x6, x7, x8, x9, x10, x11, x12, x13, x14, x15, rfl⟩, sG, hT, k, g, hp, hk⟩ := j
    have se : Same (fun _ => none : Hp) H' := fun _ _ z => nomatch z
    refine qd_asg (K := K) (d := .lst (someL.map Da.str)) se (x_lst (xs_cons xc_str (xs_cons xc_str (xs_cons xc_str (xs_cons xc_str (xs_cons xc_str (xs_cons xc_str (xs_cons xc_str (xs_cons xc_str (xs_cons xc_str (xs_cons xc_str (xs_cons xc_str es_nil)))))))))))) fun v12 G2 H2 n2 d12 => ?_
    refine qd_asg (K := K) (d := .lst (dueL.map Da.int)) n2.b (x_lst (xs_cons xc_int (xs_cons xc_int (xs_cons xc_int (xs_cons xc_int (xs_cons xc_int (xs_cons xc_int (xs_cons xc_int (xs_cons xc_int (xs_cons xc_int (xs_cons xc_int (xs_cons xc_int es_nil)))))))))))) fun v13 G3 H3 n3 d13 => ?_
    have d12 := DR.cl _ (d12.up n3.a)
    have d13 := DR.cl _ d13
    have hT := hT.ext (n2.s.trans n3.s)
    have sC : Same (clean G3) H3 := (clean_same G3).trans n3.b
    have ntC : ∀ b o, clean G3 b = some o → ∀ ps, o ≠ .tbl ps := fun b o e => (of_clean e).2
    generalize clean G3 = GC at d12 d13 sC ntC
    cases d12 with
    | @lst a12 xs12 _ h1 h2 =>
      refine ⟨_, rfl, a12, rfl, ⟨xs12, SqL.of (sC _ _ h1)⟩, fun D hD => ?_⟩
      have gD : GC D = none := sC.free hD
      refine lc_list (K := K) (a := a12) (xs := xs12) (fun i HX => ∃ GX acc, Same GC GX ∧ Same GX HX ∧ LamX.Tabs [(PT, lawQ ++ "<lambda>")] HX ∧ GX D = none ∧ HX D = some (.lst acc) ∧ DRs K GX acc ((someL.take i).map fun z => outD (readD CT CB (.str z))))
        ⟨GC, [], Same.refl _, same_upd sC gD, hT.ext (same_upd (Same.refl _) hD), gD, upd_same, .nil⟩ (fun i HX _ ⟨GX, acc, q1, q2, _⟩ => SqL.of (q2 _ _ (q1 _ _ h1))) ?_ ?_
      · rintro i x HX hi ⟨GX, acc, q1, q2, q3, q4, q5, q6⟩
        obtain ⟨d, hdi, dx⟩ := h2.get hi
        obtain ⟨z, hz, rfl⟩ : ∃ z, someL[i]? = some z ∧ d = .str z := by
          rw [List.getElem?_map] at hdi
          cases hq : someL[i]? with
          | none => rw [hq] at hdi; cases hdi
          | some z => rw [hq] at hdi; exact ⟨z, rfl, (Option.some.inj hdi).symm⟩
        cases dx
        have lz : z.length ≤ 20 := of_decide_eq_true (List.all_eq_true.mp (show someL.all (fun z => decide (z.length ≤ 20)) = true by decide +kernel) z (List.mem_of_getElem? hz))
        have lacc : acc.length ≤ 1000 := by
          rw [q6.len, List.length_map, List.length_take]
          exact Nat.le_trans (Nat.min_le_right _ _) (by decide)
        refine ⟨rfl, ?_⟩
        show LamX.tLam _ _ _ _ HX _
        refine heard_d (K := K) (G := GX) (i := 7) (d := .str z) q2 q3 rfl (.str z) (.str z (by omega)) L.em L.og L.n1 L.n2 L.kt fun y G5 H5 nt dy => ?_
        have hD5 : H5 D = some (.lst acc) := nt.x _ _ q5 fun _ z => nomatch z
        have g5 : G5 D = none := nt.n _ _ q5 (fun _ z => nomatch z) q4
        have qC : Same GC (clean GX) := fun b o e => clean_at (q1 b o e) (ntC b o e)
        refine ⟨acc, hD5, small1000 lacc, G5, acc ++ [y], qC.trans nt.a, same_upd nt.b g5, tabs_but nt.t hD5 But.upd, g5, upd_same, ?_⟩
        rw [List.take_succ, hz, List.map_append]
        exact DRs.app ((DRs.cl _ q6).up nt.a) (.cons dy .nil)
      · rintro HX ⟨GX, acc, q1, q2, q3, q4, q5, q6⟩
        have e12 : xs12.length = 11 := by rw [h2.len, List.length_map]; rfl
        rw [List.take_of_length_le (by rw [e12]; decide), outs_due] at q6
        have d13 := d13.up q1
        refine (x_eqP (K := K) (σ := [some (.ref a), some (.ref PA), some vn, x3, x4, x5, x6, x7, x8, x9, x10, x11, some (.ref a12), some v13, x14, x15]) (G := upd GX D (.lst acc)) (d1 := .lst (dueL.map fun k => Da.tup [.int 0, .int k])) (d2 := .lst (dueL.map fun k => Da.tup [.int 0, .int k])) (b := true) (p := pairsP) (q := pairsP) (ta := tC (.ref D)) (fun H e Q q => q (.ref D) _ H (Nw.refl e) (.lst upd_same (q6.up (same_upd (Same.refl _) q4)))) (ed_is (ed_lc (fun _ => true) pairD (ed_var (i := 13) rfl (d13.up (same_upd (Same.refl _) q4))) (by decide) fun y d G' H' t1 t2 hm dy => by
          obtain ⟨k, hk, rfl⟩ := List.mem_map.mp hm
          exact ⟨_, go_name, rfl, et_yes, fun _ G2 t3 => x_tup (xs_cons xc_int (xs_cons (ed_var (i := 15) rfl (dy.up t3)) es_nil))⟩) (by rfl)) rfl rfl rfl rfl rfl rfl (Nat.le_of_ble_eq_true rfl) (by decide +kernel)) HX (fun b o z => ?_) _ fun v G9 H9 n9 d9 => ?_
        · by_cases h : b = D
          · subst h; rw [upd_same] at z; rw [q5]; exact z
          · rw [upd_ne h] at z; exact q2 _ _ z
        · cases d9
          exact fin H9
end
end K05

set_option Elab.async false
set_option linter.all false
set_option maxRecDepth 100000
set_option maxHeartbeats 2000000
namespace GL
open PySem PySem.Spec PyProof.Rows L2
/-! the facts of a written part of the heap, by one computed answer -/
def fdAt (K : PySem.W.Frag) (f : Addr) : FuncData := match K.lookup f with
  | some ⟨_, _, .func fd, _⟩ => fd
  | _ => PySem.W.fnOf "" "" { posonlyargs := [], args := [], vararg := none, kwonlyargs := [], kw_defaults := [], kwarg := none, defaults := [] } [] { kind := .function, names := [], isGenerator := false, isCoroutine := false } .none .none .none .none none .none .none
theorem fun_at {K : PySem.W.Frag} {f : Addr} {nm qual : Str} {st : Stmt} {oc : Value} {od an : Option Addr} {osl : Array (Option Value)} {kV doc pm cdv ct : Value}
    (e : K.lookup f = some ⟨oc, od, .func (PySem.W.fnOf nm qual (defArgs st) (defBody st) (defScope st) .none kV doc pm an cdv ct), osl⟩) (c : PySem.W.codeIn K cdv qual = true) : Fun K nm qual st f (fdAt K f) := by
  have h : fdAt K f = PySem.W.fnOf nm qual (defArgs st) (defBody st) (defScope st) .none kV doc pm an cdv ct := by
    unfold fdAt
    rw [e]
  rw [h]
  refine fun_mk e c ?_
  unfold PySem.W.keepIn
  show (match K.lookup f with
      | some ⟨_, _, .func _, _⟩ => true
      | some ⟨_, _, .cls _, _⟩ => PySem.W.specialIn K (.ref f) "__call__" == some (some (.builtin "type.__call__"))
      | _ => false) = true
  rw [e]
def getB (K : PySem.W.Frag) (C : Addr) : Bool := decide (PySem.W.findIn K (.ref C) "__getattribute__" = some (some (.builtin "BaseException.__getattribute__"))) && (decide (PySem.W.findIn K (.ref C) "__getattr__" = some none) && (decide (PySem.W.subIn K (.ref C) (.type "BaseException") = some true) &&
  ((PySem.W.clsIn K C).isSome && (PySem.W.hasDictIn K C && (decide (PySem.W.findIn K (.ref C) "__class__" = some (some (.builtin "object.__class__"))) && (decide (PySem.W.specialIn K (.builtin "object.__class__") "__get__" = some (some (.builtin "getset_descriptor.__get__"))) &&
  (decide (PySem.W.takesIn K (.builtin "object.__class__") = some true) && decide (PySem.W.mroIn K C (.type "object") = some true))))))))
theorem getB_of {K : PySem.W.Frag} {C : Addr} (h : getB K C = true) : OGet K C := by
  unfold getB at h
  simp only [Bool.and_eq_true, decide_eq_true_eq] at h
  obtain ⟨h1, h2, h3, h4, h5, h6, h7, h8, h9⟩ := h
  exact ⟨h1, h2, h3, h4, h5, h6, h7, h8, h9⟩
def oexB (K : PySem.W.Frag) (C : Addr) : Bool := (match K.lookup C with
  | some ⟨.type "type", _, .cls cd, sl⟩ => (match cd.mro, sl.toList with
    | .ref C' :: bm, [_, _, _, _, some (.builtin n), _] => C' == C && (n == "ValueError.__new__" && (!cd.hasDel && (cd.hasDict && PySem.HandSPX.refsVE bm)))
    | _, _ => false)
  | _ => false) && (decide (PySem.W.findIn K (.ref C) "__setattr__" = some (some (.builtin "object.__setattr__"))) && (decide (PySem.W.subIn K (.ref C) (.type "BaseException") = some true) && (decide (PySem.W.typeIn K (.ref C) = some (.type "type")) && PySem.W.keepIn K (.ref C))))
theorem oexB_of {K : PySem.W.Frag} {C : Addr} (h : oexB K C = true) : OexC K C := by
  unfold oexB at h
  rw [Bool.and_eq_true] at h
  obtain ⟨q, h⟩ := h
  simp only [Bool.and_eq_true, decide_eq_true_eq] at h
  obtain ⟨h1, h2, h3, h4⟩ := h
  refine ⟨?_, h1, h2, h3, h4⟩
  split at q
  · rename_i dd cd sl ho
    split at q
    · rename_i C' bm k0 k1 k2 k3 n k5 hm hs
      simp only [Bool.and_eq_true, beq_iff_eq, Bool.not_eq_true'] at q
      obtain ⟨rfl, rfl, hdel, hd, ht⟩ := q
      obtain ⟨nm, bs, mro, ns, qn, hdct, sn, sub, ab, col, del⟩ := cd
      dsimp only at hm hdel hd
      subst hm hdel hd
      have hsl : sl = #[k0, k1, k2, k3, some (.builtin "ValueError.__new__"), k5] := by
        obtain ⟨l⟩ := sl
        simp only at hs
        rw [hs]
      subst hsl
      exact ⟨nm, qn, ns, bs, bm, sn, sub, ab, col, dd, k0, k1, k2, k3, k5, ho, ht⟩
    · cases q
  · cases q
/-- the same with its __init__ -/
def omkB (K : PySem.W.Frag) (C I : Addr) : Bool := oexB K C && (decide (PySem.W.findIn K (.ref C) "__init__" = some (some (.ref I))) && decide (PySem.W.typeIn K (.ref I) = some (.type "function")))
theorem omkB_of {K : PySem.W.Frag} {C I : Addr} (h : omkB K C I = true) : OMk K C I := by
  unfold omkB at h
  simp only [Bool.and_eq_true, decide_eq_true_eq] at h
  obtain ⟨h1, h2, h3⟩ := h
  exact ⟨oexB_of h1, h2, h3⟩
end GL

set_option Elab.async false
set_option linter.all false
set_option maxRecDepth 100000
set_option maxHeartbeats 4000000
namespace GL
open PySem PySem.Spec PyProof.Rows L2
/-! defs found by an address of one's own -/
abbrev FnVA : Type := Option (Str × Str × Arguments × FuncBody × Scope × Addr × List (Str × Addr) × Addr)
def obsA (K : PySem.W.Frag) (f : Addr) : FnVA := match K.lookup f with
  | some ⟨_, _, .func fd, _⟩ => some (fd.name, fd.qualname, fd.params, fd.body, fd.scope, fd.globals, fd.closure, fd.builtins)
  | _ => none
def isN : Value → Bool
  | .none => true
  | _ => false
def codeA (K : PySem.W.Frag) (f : Addr) (qual : Str) : Bool := match K.lookup f with
  | some ⟨_, _, .func fd, _⟩ => PySem.W.codeIn K fd.code qual && isN fd.defaults
  | _ => false
theorem funA {K : PySem.W.Frag} {f : Addr} {nm qual : Str} {st : Stmt} (e : obsA K f = some (nm, qual, defArgs st, .stmts (defBody st), defScope st, mainGlobals, [], builtinsNs)) (c : codeA K f qual = true) : Fun K nm qual st f (fdAt K f) := by
  unfold obsA at e
  unfold codeA at c
  cases q : K.lookup f with
  | none => rw [q] at c; cases c
  | some o =>
    obtain ⟨oc, od, dt, osl⟩ := o
    rw [q] at c e
    cases dt with
    | func fd =>
      obtain ⟨n1, n2, n3, n4, n5, n6, n7, n8, n9, n10, n11, n12, n13, n14, n15⟩ := fd
      have e2 : (some (n1, n2, n3, n4, n5, n6, n7, n15) : FnVA) = some (nm, qual, defArgs st, .stmts (defBody st), defScope st, mainGlobals, [], builtinsNs) := e
      simp only [Option.some.injEq, Prod.mk.injEq] at e2
      obtain ⟨h1, h2, h3, h4, h5, h6, h7, h8⟩ := e2
      subst h1 h2 h3 h4 h5 h6 h7 h8
      have c3 : (PySem.W.codeIn K n13 n2 && isN n8) = true := c
      rw [Bool.and_eq_true] at c3
      obtain ⟨k1, k2⟩ := c3
      cases n8 with
      | none => exact fun_at q k1
      | _ => cases k2
    | _ => cases c
structure FnA where
  at_ : PySem.W.Frag → Addr
  name : Str
  qual : Str
  st : Stmt
def FnA.val (d : FnA) : FnVA := some (d.name, d.qual, defArgs d.st, .stmts (defBody d.st), defScope d.st, mainGlobals, [], builtinsNs)
def obsL (fl : List FnA) (K : PySem.W.Frag) : Bool × List FnVA := (fl.all fun d => codeA K (d.at_ K) d.qual, fl.map fun d => obsA K (d.at_ K))
def valL (fl : List FnA) : Bool × List FnVA := (true, fl.map FnA.val)
theorem funL {fl : List FnA} {K : PySem.W.Frag} (c : obsL fl K = valL fl) (i : Nat) {d : FnA} (h : fl[i]? = some d) : Fun K d.name d.qual d.st (d.at_ K) (fdAt K (d.at_ K)) := by
  have c1 : (fl.all fun d => codeA K (d.at_ K) d.qual) = true := congrArg (fun z : Bool × List FnVA => z.1) c
  have c2 : (fl.map fun d => obsA K (d.at_ K)) = fl.map FnA.val := congrArg (fun z : Bool × List FnVA => z.2) c
  have e2 : (fl.map fun d => obsA K (d.at_ K))[i]? = (fl.map FnA.val)[i]? := by rw [c2]
  rw [List.getElem?_map, List.getElem?_map, h] at e2
  exact funA (Option.some.inj e2) (List.all_eq_true.mp c1 d (List.mem_of_getElem? h))
end GL
namespace K05
open PySem PySem.Spec PyProof.Rows L2 GL
def aTrip (K : PySem.W.Frag) : Addr := He.ga K "Trip"
def aBad (K : PySem.W.Frag) : Addr := He.ga K "BadText"
def aTwin (K : PySem.W.Frag) : Addr := He.ga K "Twinned"
def aPull (K : PySem.W.Frag) : Addr := He.ga K "PullError"
def aRec (K : PySem.W.Frag) : Addr := He.ma K (aTrip K) "read"
def aRead (K : PySem.W.Frag) : Addr := match PySem.W.recIn K (aRec K) "classmethod" with
  | some (.ref g :: _) => g
  | _ => 0
def tripM (m : Str) (K : PySem.W.Frag) : Addr := He.ma K (aTrip K) m
def gl (x : Str) (K : PySem.W.Frag) : Addr := He.ga K x
def fl5 : List FnA := [⟨gl "copied", "copied", "copied", sCopied⟩, ⟨gl "is_integer", "is_integer", "is_integer", s_is_integer⟩, ⟨gl "is_integer_within", "is_integer_within", "is_integer_within", s_is_integer_within⟩, ⟨gl "is_name", "is_name", "is_name", s_is_name⟩, ⟨gl "is_price", "is_price", "is_price", s_is_price⟩,
  ⟨gl "is_way_word", "is_way_word", "is_way_word", s_is_way_word⟩, ⟨gl "is_price_word", "is_price_word", "is_price_word", s_is_price_word⟩, ⟨gl "wrong_trip_word", "wrong_trip_word", "wrong_trip_word", s_wrong_trip_word⟩, ⟨gl "_law_pen", "_law_pen", "_law_pen", s__law_pen⟩, ⟨gl "_law_draw", "_law_draw", "_law_draw", s__law_draw⟩,
  ⟨gl "_law_pick", "_law_pick", "_law_pick", s__law_pick⟩, ⟨gl "_law_heard", "_law_heard", "_law_heard", s__law_heard⟩, ⟨gl "_law_is_name", "_law_is_name", "_law_is_name", s__law_is_name⟩, ⟨gl "_law_wrong", "_law_wrong", "_law_wrong", s__law_wrong⟩, ⟨gl "_law_bent", "_law_bent", "_law_bent", s__law_bent⟩, ⟨gl "law", "law", "law", s_law⟩,
  ⟨fun K => He.ma K (aBad K) "__init__", "__init__", "BadText.__init__", sI_BadText⟩, ⟨tripM "__str__", "__str__", "Trip.__str__", sT_str⟩, ⟨tripM "__eq__", "__eq__", "Trip.__eq__", sT_eq⟩, ⟨aRead, "read", "Trip.read", sT_read⟩]
def initD : He.DefD := ⟨("Trip", some "__init__"), "__init__", "Trip.__init__", defArgs sT_init, defBody sT_init, defScope sT_init, [.int 1], []⟩
end K05

set_option Elab.async false
set_option linter.all false
set_option maxRecDepth 100000
set_option maxHeartbeats 4000000
namespace K05
open PySem PySem.Spec PyProof.Rows L2 GL
theorem kb_of {K : PySem.W.Frag} {x qual : Str} {st : Stmt} {f : Addr} {fd : FuncData} {ps ks : List Str} {n : Nat} {g : List Value → List Value → List Value} {gV : List V → List V → List V} (F : Fun K x qual st f fd)
    (h : ∀ (kV doc pm : Value) (an : Option Addr) (cdv ct : Value) (us ws : List Value), us.length = n → ws.length = ks.length → bindArgs (PySem.W.fnOf x qual (defArgs st) (defBody st) (defScope st) .none kV doc pm an cdv ct) ⟨us, ks.zip ws⟩ = pure (ps.zip (g us ws)))
    (rel : ∀ {vs : List V} {us : List Value} {zs : List V} {ws : List Value}, Vals vs us → Vals zs ws → Vals (gV vs zs) (g us ws)) : KBn K fd ps n ks g gV := by
  obtain ⟨oc, od, kV, doc, pm, an, cdv, ct, osl, rfl, lk, hcd⟩ := F.ex
  exact ⟨fun s us ws _ l1 l2 => .of_eq (h kV doc pm an cdv ct us ws l1 l2), rel⟩
def freeL : List Str := ["isinstance", "all", "len", "str", "int", "bool", "list", "range", "abs", "tuple", "dict"]
def gloL : List Str := ["copied", "is_integer", "is_integer_within", "is_name", "is_price", "is_way_word", "is_price_word", "wrong_trip_word", "_law_pen", "_law_draw", "_law_pick", "_law_heard", "_law_is_name", "_law_wrong", "_law_bent", "Trip", "BadText", "PullError", "Twinned"]
def mcv (K : PySem.W.Frag) : Value := match K.lookup (aTrip K) with
  | some ⟨m, _, _, _⟩ => m
  | _ => .none
def isS (z : Str) : Option (Option Value) → Bool
  | some (some (.str x _)) => decide (x = z)
  | _ => false
def isI (i : Int) : Option (Option Value) → Bool
  | some (some (.int j _)) => decide (j = i)
  | _ => false
theorem isS_ok {z : Str} {o : Option (Option Value)} (h : isS z o = true) : ∃ t, o = some (some (.str z t)) := by
  unfold isS at h
  split at h
  · next x t => exact ⟨t, by rw [of_decide_eq_true h]⟩
  · cases h
theorem isI_ok {i : Int} {o : Option (Option Value)} (h : isI i o = true) : ∃ t, o = some (some (.int i t)) := by
  unfold isI at h
  split at h
  · next x t => exact ⟨t, by rw [of_decide_eq_true h]⟩
  · cases h
def isV (i : Int) : Option PySem.W.CFound → Bool
  | some (.val (.int j _)) => decide (j = i)
  | _ => false
theorem isV_ok {i : Int} {o : Option PySem.W.CFound} (h : isV i o = true) : ∃ t, o = some (.val (.int i t)) := by
  unfold isV at h
  split at h
  · next x t => exact ⟨t, by rw [of_decide_eq_true h]⟩
  · cases h
def isG (p C : Addr) : Option PySem.W.CFound → Bool
  | some (.get (.builtin b) (.ref p') .none (.ref C')) => decide (b = "classmethod.__get__") && (decide (p' = p) && decide (C' = C))
  | _ => false
theorem isG_ok {p C : Addr} {o : Option PySem.W.CFound} (h : isG p C o = true) : o = some (.get (.builtin "classmethod.__get__") (.ref p) .none (.ref C)) := by
  unfold isG at h
  split at h
  · next b p' C' =>
    simp only [Bool.and_eq_true, decide_eq_true_eq] at h
    obtain ⟨rfl, rfl, rfl⟩ := h
    rfl
  · cases h
def aCode (K : PySem.W.Frag) : Addr := match (fdAt K (gl "law" K)).code with
  | .ref c => c
  | _ => 0
def aTab (K : PySem.W.Frag) : Addr := match K.lookup (aCode K) with
  | some ⟨_, _, .fields vs, _⟩ => (match (vs[11]? : Option Value) with
    | some (.ref P) => P
    | _ => 0)
  | _ => 0
def isR (a : Addr) : Value → Bool
  | .ref c => decide (c = a)
  | _ => false
theorem isR_ok {a : Addr} {v : Value} (h : isR a v = true) : v = .ref a := by
  unfold isR at h
  split at h
  · rw [of_decide_eq_true h]
  · cases h
def chkA (K : PySem.W.Frag) : Bool := freeL.all (fun x => decide (PySem.W.nsIn K mainGlobals x = some none)) && (gloL.all (fun x => decide (PySem.W.nsIn K mainGlobals x = some (some (.ref (gl x K))))) && isI 8 (PySem.W.nsIn K mainGlobals "LONGEST_NAME"))
def chkB (K : PySem.W.Frag) : Bool := ((["start", "goal", "price"] : List Str).all fun x => decide (PySem.W.findIn K (.ref (aTrip K)) x = some none)) && (((["line", "word"] : List Str).all fun x => decide (PySem.W.findIn K (.ref (aBad K)) x = some none)) && (PySem.W.plainGet K (aTrip K) Str.empty && (PySem.W.hasDictIn K (aTrip K) && (PySem.W.plainOver K (aTrip K) &&
  (decide (PySem.W.findIn K (.ref (aTrip K)) "__setattr__" = some (some (.builtin "object.__setattr__"))) && (PySem.W.makesIn K (aTrip K) && (PySem.W.keepIn K (.ref (aTrip K)) && (((["__init__", "__str__", "__eq__"] : List Str).all fun m => PySem.W.isFn K (.ref (tripM m K)) && decide (PySem.W.findIn K (.ref (aTrip K)) m = some (some (.ref (tripM m K)))))))))))))
def chkC (K : PySem.W.Frag) : Bool := ((["NoneType", "bool", "int", "str"] : List String).all fun T => decide (PySem.W.kitOne K (.type T) (.ref (aTwin K)) = some false)) && (omkB K (aBad K) (He.ma K (aBad K) "__init__") && (getB K (aBad K) && (decide (PySem.W.exmOne K (.ref (aBad K)) (.ref (aPull K)) = some true) && (decide (PySem.W.kitOne K (.ref (aTrip K)) (.ref (aTrip K)) = some true) && (decide (PySem.W.kitOne K (.ref (aTrip K)) (.type "str") = some false) && (decide (PySem.W.kitOne K (.ref (aBad K)) (.ref (aBad K)) = some true) &&
  (decide (PySem.W.findIn K (.ref (aTrip K)) "__class__" = some (some (.builtin "object.__class__"))) && (decide (PySem.W.specialIn K (.builtin "object.__class__") "__get__" = some (some (.builtin "getset_descriptor.__get__"))) && (decide (PySem.W.takesIn K (.builtin "object.__class__") = some true) && decide (PySem.W.mroIn K (aTrip K) (.type "object") = some true))))))))))
def chkD (K : PySem.W.Frag) : Bool := PySem.W.readsIn K (aTrip K) (mcv K) && (decide (PySem.W.specialIn K (.ref (aTrip K)) "__getattribute__" = some (some (.builtin "type.__getattribute__"))) && (isV 99 (PySem.W.findCls K (.ref (aTrip K)) (mcv K) "MOST") && (isG (aRec K) (aTrip K) (PySem.W.findCls K (.ref (aTrip K)) (mcv K) "read") &&
  (PySem.W.fnIn K (aRead K) && ((match PySem.W.recIn K (aRec K) "classmethod" with | some (.ref g :: _) => decide (g = aRead K) | _ => false) && (isR (aCode K) (fdAt K (gl "law" K)).code && (PySem.W.codeHdIn K (aCode K) (aTab K) && (K.lookup (aTab K)).isNone)))))))
end K05

set_option Elab.async false
set_option linter.all false
set_option maxRecDepth 100000
set_option maxHeartbeats 2000000
namespace GL
open PySem PySem.Spec PyProof.Rows L2
/-! more of what an expression gives as data: -i, i ** j, text * int, {k: v} -/
def rRepS : R2 := fun x y H Q => ∃ (z : Str) (k : Int), x = .str z ∧ y = .int k ∧ z.length ≤ 16 ∧ -(2 ^ 63 : Int) ≤ k ∧ k ≤ 1000 ∧ Q (.str (Txt.mul z k)) H
theorem op_repS {X : Cx} : OpR X (binaryOp .Mult) rRepS := by
  intro pins s σ H x y v u Q I rx ry h
  obtain ⟨z, k, rfl, rfl, hz, h1, h2, q⟩ := h
  obtain ⟨t, rfl⟩ := rx
  obtain ⟨t2, rfl⟩ := ry
  exact SB.mul (mulOk_of 16 1000 hz (by omega) h1 (by decide) (by decide)) fun t' k' => ⟨.str _, H, I.tok k', ⟨t', rfl⟩, q⟩
section
variable {K : PySem.W.Frag} {σ : L2.St} {G : Hp} {te ta tb tk : TE} {d : Da} {i j : Int} {z : Str}
theorem ed_neg (h : Evd K te σ G (.int i)) : Evd K (tUn (rU fun i => .int (-i)) te) σ G (.int (-i)) := fun H e Q q => h H e _ fun v G1 H1 n1 dv => by
  cases dv
  exact ⟨i, rfl, q _ G1 H1 n1 (.int _)⟩
theorem ed_pow (hc : CPow i j) (ha : Evd K ta σ G (.int i)) (hb : Evd K tb σ G (.int j)) : Evd K (tOp (rI CPow fun i j => .int (i ^ j.toNat)) ta tb) σ G (.int (i ^ j.toNat)) :=
  ed_two ha (fun _ s => hb.up s) fun x y G' H' _ e dx dy Q q => by
    cases dx; cases dy
    exact ⟨i, j, rfl, rfl, hc, q _ G' H' (Nw.refl e) (.int _)⟩
theorem ed_repS (hz : z.length ≤ 16) (h1 : -(2 ^ 63 : Int) ≤ i) (h2 : i ≤ 1000) (ha : Evd K ta σ G (.str z)) (hb : Evd K tb σ G (.int i)) : Evd K (tOp rRepS ta tb) σ G (.str (Txt.mul z i)) :=
  ed_two ha (fun _ s => hb.up s) fun x y G' H' _ e dx dy Q q => by
    cases dx; cases dy
    exact ⟨z, i, rfl, rfl, hz, h1, h2, q _ G' H' (Nw.refl e) (.str _)⟩
theorem ed_disp1 (hk : Evd K tk σ G (.str z)) (hv : Evd K te σ G d) : Evd K (tDisp [(tk, te)]) σ G (.dct [.inr z] [d]) := fun H e Q q p hp => by
  have gp : G p = none := e.free hp
  have s1 : Same G (upd H p (.dK [])) := same_upd e gp
  refine hk _ s1 _ fun x G2 H2 n2 dx => hv.up n2.a H2 n2.b _ fun y G3 H3 n3 dy => ?_
  cases dx
  have h2p : H2 p = some (.dK []) := n2.s _ _ upd_same
  have h3p : H3 p = some (.dK []) := n3.s _ _ h2p
  have g2 : G2 p = none := n2.n _ _ upd_same gp
  have g3 : G3 p = none := n3.n _ _ h2p g2
  have up : Same G3 (upd G3 p (.dK [(Sum.inr z, y)])) := same_upd (Same.refl _) g3
  refine ⟨h3p, [(Sum.inr z, y)], rfl, by show 1 ≤ 15; decide, q _ (upd G3 p (.dK [(Sum.inr z, y)])) _ ⟨fun b o hb => ?_, (n2.a.trans n3.a).trans up, fun b o hb => ?_, fun b o hb hg => ?_⟩ (.dct upd_same rfl (.cons (dy.up up) .nil))⟩
  · have hne : b ≠ p := ne_of_none hb hp
    rw [upd_ne hne]
    exact n3.s _ _ (n2.s _ _ (by rw [upd_ne hne]; exact hb))
  · by_cases hne : b = p
    · subst hne; rw [upd_same] at hb ⊢; exact hb
    · rw [upd_ne hne] at hb ⊢; exact n3.b _ _ hb
  · have hne : b ≠ p := ne_of_none hb hp
    rw [upd_ne hne]
    have hb1 : upd H p (.dK []) b = some o := by rw [upd_ne hne]; exact hb
    exact n3.n _ _ (n2.s _ _ hb1) (n2.n _ _ hb1 hg)
end
/-- the promise of a drawn value: one of a written menu, or a small int -/
def spVal (K : PySem.W.Frag) (Ok : Da → Prop) : Sp := fun vs H Q _ => ∃ (P c : Addr) (ns : List Int) (k g : Int) (G : Hp), vs = [.ref P] ∧ PenAt H P c ns k g ∧ ns.length ≤ 63 ∧ k ≤ 9998 ∧ Same G H ∧ G P = none ∧
  ∀ v d G' H' k' g', Ok d → NwP P G H G' H' → PenAt H' P c ns k' g' → k' ≤ k + 2 → DR K G' v d → Q v H'
/-- return pick(pen, some + [draw(pen, a ** b)]) -/
theorem val_go {K : PySem.W.Frag} {Ok : Da → Prop} {P c : Addr} {ns : List Int} {k g : Int} {G H G1 H1 : Hp} {v1 : V} {ds : List Da} {Q : VK} {E E2 : XK} {D : Ends} {tm : TE} {σ : L2.St} {m : Int} (h0 : σ[0]? = some (some (.ref P))) (h1 : σ[1]? = some (some v1))
    (hp : PenAt H P c ns k g) (hl : ns.length ≤ 63) (hk : k ≤ 9998) (hs : Same G H) (gP : G P = none)
    (kk : ∀ v d G' H' k' g', Ok d → NwP P G H G' H' → PenAt H' P c ns k' g' → k' ≤ k + 2 → DR K G' v d → Q v H') (n1 : Nw G H G1 H1) (dr : DR K G1 v1 (.lst ds)) (hz : ds.length ≤ 900) (hm : ∀ H', Val tm σ H' (.int m)) (m0 : 0 < m ∧ m < 1073741824)
    (ok : ∀ d ∈ ds, Ok d) (okI : ∀ r : Int, 0 ≤ r → r < m → Ok (.int r)) (hD : D.rt = Q := by rfl) :
    tRet (tCall (spPick K) [] E (tCons (tVar 0) (tCons (tOp rCat (tVar 1) (tLst (tCons (tCall (spDraw 1073741824) [] E2 (tCons (tVar 0) (tCons tm tNil))) tNil))) tNil))) D σ H1 := by
  have hp1 := hp.same n1.s
  have g1P : G1 P = none := n1.n _ _ hp.hp gP
  cases dr with
  | @lst a xs _ e1 e2 =>
    refine ⟨_, h0, _, h1, _, h0, hm H1 _ ⟨P, c, ns, k, g, m, rfl, hp1, hl, by omega, m0.1, m0.2, fun r H2 k2 g2 r0 r1 bt hp2 hk2 => ⟨by show 1 ≤ sizeLine; decide, fun p hpn => ?_⟩⟩⟩
    have s2 : Same G1 H2 := bt.same n1.b g1P
    have s3 : Same H2 (upd H2 p (.lst [.int r])) := same_upd (Same.refl _) hpn
    refine ⟨a, p, xs, [.int r], rfl, rfl, s3 _ _ (s2 _ _ e1), upd_same, by rw [e2.len]; exact Nat.le_trans (show ds.length + 1 ≤ 1000 by omega) (by decide), fun q hq => ?_⟩
    have hq2 : H2 q = none := s3.free hq
    have gq : G1 q = none := s2.free hq2
    have hqP : P ≠ q := ne_of_none hp2.hp hq2
    have up : Same G1 (upd G1 q (.lst (xs ++ [.int r]))) := same_upd (Same.refl _) gq
    have s4 : Same H2 (upd (upd H2 p (.lst [.int r])) q (.lst (xs ++ [.int r]))) := same_upd s3 hq2
    have sG : Same (upd G1 q (.lst (xs ++ [.int r]))) (upd (upd H2 p (.lst [.int r])) q (.lst (xs ++ [.int r]))) := fun b o hb => by
      by_cases hne : b = q
      · subst hne; rw [upd_same] at hb ⊢; exact hb
      · rw [upd_ne hne] at hb ⊢; exact s3 _ _ (s2 _ _ hb)
    have g3P : upd G1 q (.lst (xs ++ [.int r])) P = none := by rw [upd_ne hqP]; exact g1P
    refine ⟨P, c, ns, k2, g2, .ref q, upd G1 q (.lst (xs ++ [.int r])), ds ++ [.int r], rfl, hp2.same s4, hl, by omega, sG, g3P, .lst upd_same (DRs.app (e2.up up) (.cons (.int r) .nil)), by simp, by rw [List.length_append]; show ds.length + 1 ≤ 1000; omega, fun v d H5 k5 g5 hd bt5 hp5 hk5 dv => ?_⟩
    rw [hD]
    have all : But P H H5 := ((Same.but n1.s).trans (bt.trans (Same.but s4))).trans bt5
    refine kk v d _ H5 k5 g5 ?_ ⟨all, n1.a.trans up, bt5.same sG g3P, fun b o hb hg => ?_⟩ hp5 (by omega) dv
    · rcases List.mem_append.mp hd with h | h
      · exact ok d h
      · rw [List.mem_singleton] at h
        subst h
        exact okI r r0 r1
    · have hne : b ≠ q := by
        by_cases hb2 : b = P
        · rw [hb2]; exact hqP
        · exact ne_of_none (bt _ _ hb2 (n1.s _ _ hb)) hq2
      rw [upd_ne hne]
      exact n1.n _ _ hb hg
end GL

set_option Elab.async false
set_option linter.all false
set_option maxRecDepth 100000
set_option maxHeartbeats 4000000
namespace K05
open PySem PySem.Spec PyProof.Rows L2 GL
def eqkB (K : PySem.W.Frag) (C f : Addr) : Bool := (match K.lookup C with
  | some ⟨.type "type", _, .cls cd, sl⟩ => (match cd.mro, sl.toList with
    | [.ref C', .type "object"], [_, _, _, _, some (.builtin _), _] => decide (C' = C) && (!cd.hasDel && (PySem.W.nsOkIn K cd.ns && (decide (PySem.W.nsIn K cd.ns "__eq__" = some (some (.ref f))) && decide (PySem.W.nsIn K cd.ns "__ne__" = some none))))
    | _, _ => false)
  | _ => false)
theorem eqkB_of {K : PySem.W.Frag} {C f : Addr} (q : eqkB K C f = true) (hf : PySem.W.isFn K (.ref f) = true) : EqK K C f := by
  unfold eqkB at q
  refine ⟨?_, hf⟩
  split at q
  · rename_i dd cd sl ho
    split at q
    · rename_i C' k0 k1 k2 k3 n k5 hm hs
      simp only [Bool.and_eq_true, decide_eq_true_eq, Bool.not_eq_true'] at q
      obtain ⟨rfl, hdel, q1, q2, q3⟩ := q
      obtain ⟨nm, bs, mro, ns, qn, hdct, sn, sub, ab, col, del⟩ := cd
      dsimp only at hm hdel q1 q2 q3
      subst hm hdel
      have hsl : sl = #[k0, k1, k2, k3, some (.builtin n), k5] := by
        obtain ⟨l⟩ := sl
        simp only at hs
        rw [hs]
      subst hsl
      exact ⟨nm, qn, ns, bs, _, sn, sub, ab, col, dd, k0, k1, k2, k3, k5, n, ho, q1, q2, q3⟩
    · cases q
  · cases q
theorem law_at {l : PySem.W.OpenLaw} {w : World} {K : PySem.W.Frag} {mg : Str → Option Value} {h : Heap} {fa : Addr} (X : K.In h) (G : h.Ns mainGlobals mg) (hfa : mg "law" = some (.ref fa)) (own : LamX.OwnTab K fa h) (glaw : PySem.W.nsIn K mainGlobals "law" = some (some (.ref (gl "law" K))))
    (cA : chkA K = true) (cB : chkB K = true) (cC : chkC K = true) (cD : chkD K = true) (cE : eqkB K (aTrip K) (tripM "__eq__" K) = true) (cl : obsL fl5 K = valL fl5) (ci : He.fnW K initD.at_ = initD.val) (co : initD.ok K = true) : LamX.LawAtS l w K C8.CX0 10 63 "_law_script" mg fa h := by
  have e0 : mg "law" = some (.ref (gl "law" K)) := PySem.W.mg_of X G glaw
  obtain rfl : fa = gl "law" K := by rw [hfa] at e0; cases e0; rfl
  unfold chkA at cA
  unfold chkB at cB
  unfold chkC at cC
  unfold chkD at cD
  simp only [Bool.and_eq_true, decide_eq_true_eq] at cA cB cC cD
  obtain ⟨a1, a2, a4⟩ := cA
  obtain ⟨b1, b2, b3, b4, b5, b6, b7, b8, b9⟩ := cB
  obtain ⟨c0, c1, c2, c3, c4, c5, c6, c7, c8, c9, c10⟩ := cC
  obtain ⟨d1, d2, d3, d4, d5, d6, d7, d8, d9⟩ := cD
  have fr : ∀ x, x ∈ freeL → mg x = none := fun x hx => PySem.W.mg_none_of X G (of_decide_eq_true (List.all_eq_true.mp a1 x hx))
  have gg : ∀ x, x ∈ gloL → mg x = some (.ref (gl x K)) := fun x hx => PySem.W.mg_of X G (of_decide_eq_true (List.all_eq_true.mp a2 x hx))
  obtain ⟨tN, a4⟩ := isI_ok a4
  obtain ⟨tM, d3⟩ := isV_ok d3
  have d4 := isG_ok d4
  have d7 := isR_ok d7
  have na : ∀ x, x ∈ (["start", "goal", "price"] : List Str) → PySem.W.findIn K (.ref (aTrip K)) x = some none := fun x hx => of_decide_eq_true (List.all_eq_true.mp b1 x hx)
  have nb : ∀ x, x ∈ (["line", "word"] : List Str) → PySem.W.findIn K (.ref (aBad K)) x = some none := fun x hx => of_decide_eq_true (List.all_eq_true.mp b2 x hx)
  have ms : ∀ m, m ∈ (["__init__", "__str__", "__eq__"] : List Str) → PySem.W.isFn K (.ref (tripM m K)) = true ∧ PySem.W.findIn K (.ref (aTrip K)) m = some (some (.ref (tripM m K))) := fun m hm => by
    have := List.all_eq_true.mp b9 m hm
    simp only [Bool.and_eq_true, decide_eq_true_eq] at this
    exact this
  have OM : OMk K (aBad K) (He.ma K (aBad K) "__init__") := omkB_of c1
  have OG : OGet K (aBad K) := getB_of c2
  have CL : Cls K (aTrip K) := ⟨b3, b4, b5, b6⟩
  have B : TT K (aTrip K) := ⟨CL, na _ (by decide), na _ (by decide), na _ (by decide)⟩
  have J : InC K (aTrip K) := ⟨CL, c7, c8, c9, c10⟩
  have RD : ClX.CRead K (aTrip K) (mcv K) := ⟨d1, d2⟩
  have T : ∀ {P : Program} {base : Heap}, T5 P w K mg base (aTrip K) := fun {P base} => ⟨fr _ (by decide), fr _ (by decide), fr _ (by decide), fr _ (by decide), fr _ (by decide), fr _ (by decide), fr _ (by decide), fr _ (by decide), fr _ (by decide), ⟨tN, PySem.W.mg_of X G a4⟩, gg "Trip" (by decide), mcv K, RD, tM, d3, tM, rfl⟩
  have F_copied := funL cl 0 rfl
  have F_copied : Fun K "copied" "copied" sCopied (gl "copied" K) (fdAt K (gl "copied" K)) := F_copied
  have b_copied : Binds K (fdAt K (gl "copied" K)) ["value"] [] := F_copied.binds fun _ _ _ _ _ _ us hl => match us, hl with | [_], _ => rfl
  have F_is_integer := funL cl 1 rfl
  have F_is_integer : Fun K "is_integer" "is_integer" s_is_integer (gl "is_integer" K) (fdAt K (gl "is_integer" K)) := F_is_integer
  have b_is_integer : Binds K (fdAt K (gl "is_integer" K)) ["value"] [] := F_is_integer.binds fun _ _ _ _ _ _ us hl => match us, hl with | [_], _ => rfl
  have F_is_integer_within := funL cl 2 rfl
  have F_is_integer_within : Fun K "is_integer_within" "is_integer_within" s_is_integer_within (gl "is_integer_within" K) (fdAt K (gl "is_integer_within" K)) := F_is_integer_within
  have b_is_integer_within : Binds K (fdAt K (gl "is_integer_within" K)) ["value", "least", "most"] [] := F_is_integer_within.binds fun _ _ _ _ _ _ us hl => match us, hl with | [_, _, _], _ => rfl
  have F_is_name := funL cl 3 rfl
  have F_is_name : Fun K "is_name" "is_name" s_is_name (gl "is_name" K) (fdAt K (gl "is_name" K)) := F_is_name
  have b_is_name : Binds K (fdAt K (gl "is_name" K)) ["value"] [] := F_is_name.binds fun _ _ _ _ _ _ us hl => match us, hl with | [_], _ => rfl
  have F_is_price := funL cl 4 rfl
  have F_is_price : Fun K "is_price" "is_price" s_is_price (gl "is_price" K) (fdAt K (gl "is_price" K)) := F_is_price
  have b_is_price : Binds K (fdAt K (gl "is_price" K)) ["value"] [] := F_is_price.binds fun _ _ _ _ _ _ us hl => match us, hl with | [_], _ => rfl
  have F_is_way_word := funL cl 5 rfl
  have F_is_way_word : Fun K "is_way_word" "is_way_word" s_is_way_word (gl "is_way_word" K) (fdAt K (gl "is_way_word" K)) := F_is_way_word
  have b_is_way_word : Binds K (fdAt K (gl "is_way_word" K)) ["word"] [] := F_is_way_word.binds fun _ _ _ _ _ _ us hl => match us, hl with | [_], _ => rfl
  have F_is_price_word := funL cl 6 rfl
  have F_is_price_word : Fun K "is_price_word" "is_price_word" s_is_price_word (gl "is_price_word" K) (fdAt K (gl "is_price_word" K)) := F_is_price_word
  have b_is_price_word : Binds K (fdAt K (gl "is_price_word" K)) ["word"] [] := F_is_price_word.binds fun _ _ _ _ _ _ us hl => match us, hl with | [_], _ => rfl
  have F_wrong_trip_word := funL cl 7 rfl
  have F_wrong_trip_word : Fun K "wrong_trip_word" "wrong_trip_word" s_wrong_trip_word (gl "wrong_trip_word" K) (fdAt K (gl "wrong_trip_word" K)) := F_wrong_trip_word
  have b_wrong_trip_word : Binds K (fdAt K (gl "wrong_trip_word" K)) ["words"] [] := F_wrong_trip_word.binds fun _ _ _ _ _ _ us hl => match us, hl with | [_], _ => rfl
  have F_law_pen := funL cl 8 rfl
  have F_law_pen : Fun K "_law_pen" "_law_pen" s__law_pen (gl "_law_pen" K) (fdAt K (gl "_law_pen" K)) := F_law_pen
  have b_law_pen : Binds K (fdAt K (gl "_law_pen" K)) ["_law_script"] [] := F_law_pen.binds fun _ _ _ _ _ _ us hl => match us, hl with | [_], _ => rfl
  have F_law_draw := funL cl 9 rfl
  have F_law_draw : Fun K "_law_draw" "_law_draw" s__law_draw (gl "_law_draw" K) (fdAt K (gl "_law_draw" K)) := F_law_draw
  have b_law_draw : Binds K (fdAt K (gl "_law_draw" K)) ["_law_pen_here", "_law_many"] [] := F_law_draw.binds fun _ _ _ _ _ _ us hl => match us, hl with | [_, _], _ => rfl
  have F_law_pick := funL cl 10 rfl
  have F_law_pick : Fun K "_law_pick" "_law_pick" s__law_pick (gl "_law_pick" K) (fdAt K (gl "_law_pick" K)) := F_law_pick
  have b_law_pick : Binds K (fdAt K (gl "_law_pick" K)) ["_law_pen_here", "_law_some"] [] := F_law_pick.binds fun _ _ _ _ _ _ us hl => match us, hl with | [_, _], _ => rfl
  have F_law_heard := funL cl 11 rfl
  have F_law_heard : Fun K "_law_heard" "_law_heard" s__law_heard (gl "_law_heard" K) (fdAt K (gl "_law_heard" K)) := F_law_heard
  have b_law_heard : Binds K (fdAt K (gl "_law_heard" K)) ["_law_ask"] [] := F_law_heard.binds fun _ _ _ _ _ _ us hl => match us, hl with | [_], _ => rfl
  have F_law_is_name := funL cl 12 rfl
  have F_law_is_name : Fun K "_law_is_name" "_law_is_name" s__law_is_name (gl "_law_is_name" K) (fdAt K (gl "_law_is_name" K)) := F_law_is_name
  have b_law_is_name : Binds K (fdAt K (gl "_law_is_name" K)) ["_law_word"] [] := F_law_is_name.binds fun _ _ _ _ _ _ us hl => match us, hl with | [_], _ => rfl
  have F_law_wrong := funL cl 13 rfl
  have F_law_wrong : Fun K "_law_wrong" "_law_wrong" s__law_wrong (gl "_law_wrong" K) (fdAt K (gl "_law_wrong" K)) := F_law_wrong
  have b_law_wrong : Binds K (fdAt K (gl "_law_wrong" K)) ["_law_line"] [] := F_law_wrong.binds fun _ _ _ _ _ _ us hl => match us, hl with | [_], _ => rfl
  have F_law_bent := funL cl 14 rfl
  have F_law_bent : Fun K "_law_bent" "_law_bent" s__law_bent (gl "_law_bent" K) (fdAt K (gl "_law_bent" K)) := F_law_bent
  have b_law_bent : Binds K (fdAt K (gl "_law_bent" K)) ["_law_pen_here", "_law_line"] [] := F_law_bent.binds fun _ _ _ _ _ _ us hl => match us, hl with | [_, _], _ => rfl
  have F_law := funL cl 15 rfl
  have F_law : Fun K "law" "law" s_law (gl "law" K) (fdAt K (gl "law" K)) := F_law
  have b_law : Binds K (fdAt K (gl "law" K)) ["_law_script"] [] := F_law.binds fun _ _ _ _ _ _ us hl => match us, hl with | [_], _ => rfl
  have F_bi : Fun K "__init__" "BadText.__init__" sI_BadText (He.ma K (aBad K) "__init__") (fdAt K (He.ma K (aBad K) "__init__")) := funL cl 16 (d := ⟨_, _, _, _⟩) rfl
  have b_bi : Binds K (fdAt K (He.ma K (aBad K) "__init__")) ["self", "line", "word"] [] := F_bi.binds fun _ _ _ _ _ _ us hl => match us, hl with | [_, _, _], _ => rfl
  have F_ts : Fun K "__str__" "Trip.__str__" sT_str (tripM "__str__" K) (fdAt K (tripM "__str__" K)) := funL cl 17 (d := ⟨_, _, _, _⟩) rfl
  have b_ts : Binds K (fdAt K (tripM "__str__" K)) ["self"] [] := F_ts.binds fun _ _ _ _ _ _ us hl => match us, hl with | [_], _ => rfl
  have F_te : Fun K "__eq__" "Trip.__eq__" sT_eq (tripM "__eq__" K) (fdAt K (tripM "__eq__" K)) := funL cl 18 (d := ⟨_, _, _, _⟩) rfl
  have b_te : Binds K (fdAt K (tripM "__eq__" K)) ["self", "other"] [] := F_te.binds fun _ _ _ _ _ _ us hl => match us, hl with | [_, _], _ => rfl
  have F_tr : Fun K "read" "Trip.read" sT_read (aRead K) (fdAt K (aRead K)) := funL cl 19 (d := ⟨_, _, _, _⟩) rfl
  have b_tr : Binds K (fdAt K (aRead K)) ["cls", "text"] [] := F_tr.binds fun _ _ _ _ _ _ us hl => match us, hl with | [_, _], _ => rfl
  obtain ⟨fdI, FI⟩ := He.DefD.funD ci co
  have FI : FT K (tripM "__init__" K) fdI := FI
  have M : Mk K (aTrip K) (tripM "__init__" K) := ⟨b7, (ms _ (by decide)).2, (ms _ (by decide)).1, b8⟩
  have TCc : TC K mg (gl "copied" K) := ⟨⟨aTwin K, gg "Twinned" (by decide), c0⟩, fr _ (by decide), fr _ (by decide), fr _ (by decide), fr _ (by decide), gg _ (by decide)⟩
  have kR : KBn K (fdAt K (aRead K)) ["cls", "text"] 1 ["text"] (fun us ws => us ++ ws) (fun vs zs => vs ++ zs) := kb_of F_tr (fun _ _ _ _ _ _ us ws hl hw => match us, hl, ws, hw with | [_], _, [_], _ => rfl) (fun r z => r.append z)
  have rc : ∃ rest, PySem.W.recIn K (aRec K) "classmethod" = some (.ref (aRead K) :: rest) := by
    split at d6
    · next g rest hq => exact ⟨rest, by rw [hq, of_decide_eq_true d6]⟩
    · cases d6
  have FC : FunC K "law" "law" s_law (aCode K) (gl "law" K) (fdAt K (gl "law" K)) := by
    obtain ⟨oc, od, kV, doc, pm, an, cdv, ct, osl, e, lk, hc⟩ := F_law.ex
    have ec : cdv = .ref (aCode K) := by rw [e] at d7; exact d7
    subst ec
    exact ⟨oc, od, kV, doc, pm, an, ct, osl, e, lk, hc⟩
  have CH : PySem.W.CodeHd h (aCode K) (aTab K) := PySem.W.codeHd_of_K X d8
  refine ⟨fdAt K (gl "law" K), [(aCode K, aTab K)], spLaw5 K (aTab K), fun p hp => ?_, fun p hp => ?_, fun p hp => ?_, fun s u => ?_, fun H a ns hl hb ht hs => ?_, fun base KB GB TB => ?_⟩
  · rw [List.mem_singleton.mp hp]
    obtain ⟨oc, od, kV, doc, pm, an, cdv, ct, osl, e, lk, hc⟩ := F_law.ex
    unfold PySem.W.codeHdIn at d8
    split at d8
    · next vs _ hk =>
      simp only [Bool.and_eq_true] at d8
      obtain ⟨⟨⟨⟨⟨e1, _⟩, _⟩, _⟩, _⟩, _⟩ := d8
      split at e1
      · next P' hv =>
        have e2 : P' = aTab K := beq_iff_eq.mp e1
        exact own (aCode K) (aTab K) _ _ _ _ vs _ lk rfl d7 hk (by rw [hv, e2])
      · cases e1
    · cases d8
  · rw [List.mem_singleton.mp hp]
    exact Option.isNone_iff_eq_none.mp d9
  · rw [List.mem_singleton.mp hp]
    exact CH
  · obtain ⟨oc, od, kV, doc, pm, an, cdv, ct, osl, e, lk, hc⟩ := F_law.ex
    rw [e]
    exact .of_eq rfl
  · exact ⟨a, ns, rfl, hs, hl, ht _ (List.mem_singleton.mpr rfl), fun _ => rfl⟩
  · have TB := TB _ (List.mem_singleton.mpr rfl)
    have hmb : ∀ x, x ∈ gloL → mg x = some (.ref (gl x K)) := gg
    have T := T (P := l.prog) (base := base)
    have k_is_name : CalO l.prog w K mg base 1 "is_name" ["value"] _ := ⟨_, _, ok_is_name F_is_name T, gg _ (by decide), F_is_name.kp, b_is_name⟩
    have k_is_integer : CalO l.prog w K mg base 1 "is_integer" ["value"] _ := ⟨_, _, ok_is_integer F_is_integer T, gg _ (by decide), F_is_integer.kp, b_is_integer⟩
    have k_within : CalO l.prog w K mg base 2 "is_integer_within" ["value", "least", "most"] _ := ⟨_, _, ok_is_integer_within F_is_integer_within k_is_integer, gg _ (by decide), F_is_integer_within.kp, b_is_integer_within⟩
    have k_price : CalO l.prog w K mg base 3 "is_price" ["value"] _ := ⟨_, _, ok_is_price F_is_price T k_within, gg _ (by decide), F_is_price.kp, b_is_price⟩
    have k_way : CalO l.prog w K mg base 2 "is_way_word" ["word"] _ := ⟨_, _, ok_is_way_word F_is_way_word T k_is_name, gg _ (by decide), F_is_way_word.kp, b_is_way_word⟩
    have k_pw : CalO l.prog w K mg base 1 "is_price_word" ["word"] _ := ⟨_, _, ok_is_price_word F_is_price_word T, gg _ (by decide), F_is_price_word.kp, b_is_price_word⟩
    have k_wrong : CalO l.prog w K mg base 3 "wrong_trip_word" ["words"] _ := ⟨_, _, ok_wrong_trip_word F_wrong_trip_word T k_way k_pw, gg _ (by decide), F_wrong_trip_word.kp, b_wrong_trip_word⟩
    have GI := ok_init (P := l.prog) (w := w) (mg := mg) (base := base) FI T B k_is_name k_price
    have GB2 := ok_BadText (P := l.prog) (w := w) (base := base) F_bi TCc F_copied b_copied OM.o (nb _ (by decide)) (nb _ (by decide))
    have GR := ok_read (P := l.prog) (w := w) (base := base) F_tr T B J c5 k_wrong M GI (kb_full FI) OM GB2 b_bi (gg "BadText" (by decide))
    have k_pen : CalO l.prog w K mg base 1 "_law_pen" ["_law_script"] _ := ⟨_, _, ok_law_pen F_law_pen T, gg _ (by decide), F_law_pen.kp, b_law_pen⟩
    have k_draw : CalO l.prog w K mg base 1 "_law_draw" ["_law_pen_here", "_law_many"] _ := ⟨_, _, ok_law_draw F_law_draw T, gg _ (by decide), F_law_draw.kp, b_law_draw⟩
    have k_pick : CalO l.prog w K mg base 2 "_law_pick" ["_law_pen_here", "_law_some"] _ := ⟨_, _, ok_law_pick F_law_pick T k_draw, gg _ (by decide), F_law_pick.kp, b_law_pick⟩
    have k_isn : CalO l.prog w K mg base 1 "_law_is_name" ["_law_word"] _ := ⟨_, _, ok_law_is_name F_law_is_name T, gg _ (by decide), F_law_is_name.kp, b_law_is_name⟩
    have k_wr : CalO l.prog w K mg base 2 "_law_wrong" ["_law_line"] _ := ⟨_, _, ok_law_wrong F_law_wrong T k_isn, gg _ (by decide), F_law_wrong.kp, b_law_wrong⟩
    have k_bent : CalO l.prog w K mg base 3 "_law_bent" ["_law_pen_here", "_law_line"] _ := ⟨_, _, ok_law_bent F_law_bent T k_draw k_pick, gg _ (by decide), F_law_bent.kp, b_law_bent⟩
    have CM : ClX.CMet K (aTrip K) (mcv K) "read" (aRec K) (aRead K) := ⟨d4, rc, d5⟩
    have Z : TH l.prog w K mg base (aTrip K) (aPull K) (aBad K) := ⟨gg "PullError" (by decide), gg "BadText" (by decide), gg "Trip" (by decide), fr _ (by decide), ⟨mcv K, aRec K, aRead K, _, RD, CM, GR, b_tr⟩, ⟨_, _, gg _ (by decide), F_law_heard, b_law_heard⟩⟩
    exact ok_law FC { T := T, em := c3, og := OG, n1 := nb _ (by decide), n2 := nb _ (by decide), kt := c6, B := B, Z := Z, M := M, FI := FI, GI := GI, GS := ok_str F_ts T B, hS := (ms _ (by decide)).2, iS := (ms _ (by decide)).1, bS := b_ts, GE := ok_eq F_te T B J c4, kE := eqkB_of cE (ms _ (by decide)).1, bE := b_te, GR := GR, rd := ⟨mcv K, aRec K, RD, CM⟩, bR := b_tr, kR := kR, pen := k_pen, draw := k_draw, pick := k_pick, wrong := k_wr, bent := k_bent } TB
end K05

set_option Elab.async false
set_option linter.all false
set_option maxRecDepth 100000
set_option maxHeartbeats 4000000
namespace K05
open PySem PySem.Spec PyProof.Rows L2 GL
def chk5 (K : PySem.W.Frag) : Bool := decide (PySem.W.nsIn K mainGlobals "law" = some (some (.ref (gl "law" K)))) && (chkA K && (chkB K && (chkC K && (chkD K && (eqkB K (aTrip K) (tripM "__eq__" K) && initD.ok K)))))
theorem end_k05 {l : PySem.W.OpenLaw} {q : Program} {loose : List Str} {XP : (Str → Option Value) → Heap → Prop} {YP : World → Heap → Prop} {d : DefRec} {K : Params → PySem.W.Frag}
    (hn : l.most = some 63) (hdf : d.params.defaults = []) (hd : d.name = "law") (hrec : ((recsOf q).any fun e => e.name == d.name) = true) (hY : ∀ (w : World) (h : Heap), YP w h → (K w.params).In h) (c1 : ∀ w : World, chk5 (K w.params) = true) (c2 : ∀ w : World, obsL fl5 (K w.params) = valL fl5) (c3 : ∀ w : World, He.fnW (K w.params) initD.at_ = initD.val) :
    PySem.W.WalkO q loose XP YP l.row.toRowW d [] (fun f vs => PySem.call f vs) :=
  LamX.walk_ofOwn (n := 63) (k := 10) (x := "_law_script") (K := K) (CX := fun _ => C8.CX0) hn (by decide) hdf ⟨rfl, by decide, by decide⟩ hrec hY
    (fun w mg fa h Y X G hmg own => by
      have c := c1 w
      unfold chk5 at c
      simp only [Bool.and_eq_true, decide_eq_true_eq] at c
      obtain ⟨h1, h2, h3, h4, h5, h6, h7⟩ := c
      exact law_at X G (by rw [hd] at hmg; exact hmg) own h1 h2 h3 h4 h5 h6 (c2 w) (c3 w) h7) (fun _ _ _ _ _ z => z)
end K05

open PySem PySem.W PyProof.Rows
set_option maxRecDepth 100000 in
set_option maxHeartbeats 0 in
theorem PySem.Challenge.cw_emptypulls_k05_texts_of_trips_holds : PySem.Challenge.rw_emptypulls_k05_texts_of_trips.Holds := by
  w_on; o_law; k_head; (case hw => w_witness2)
  k_fill
  exact K05.end_k05 rfl rfl rfl (by rfl) (fun w h Y => PySem.W.km_in_of Y) (fun w => by kernel_rfl) (fun w => by kernel_rfl) (fun w => by kernel_rfl)
