import PyProof.Rows.All
import Wide.All
import OpenK.AllK
import Wide.FinOn
import HandS.ForMost
import HandS.Walk
import HandS.Wide
import HandS.IsInst
import HandS.Deep
import HandS.Evl
import KE.GoesEnum
import HandS.TupAny
import HandS.TupMul
import KE.KExcSuper
import KE.KExcIs
import HandS.ExcIs
import HandS.ExcValue
import HandS.ExcInit
import HandS.TryMany
import HandS.ExcField
import HandS.WordsExc
import PySem.Challenge.RW_shelfroutes_k00_errors_and_their_classes
set_option Elab.async false
set_option linter.all false
set_option maxRecDepth 100000
set_option maxHeartbeats 4000000
/-! Part A: promises of defs that also know that no repr is under way. -/
namespace Vf
open PySem PySem.Spec PyProof.Rows L2

/-- no repr is under way -/
def Calm (A : Around) : Prop := A.guards = some []
theorem Calm.deeper {A : Around} {env : Env} (h : Calm A) : Calm (A.deeper env) := h
theorem Calm.in1 {A : Around} (h : Calm A) : Calm A.in1 := h

/-- a def's promise, where no repr is under way -/
structure FnG (P : Program) (w : World) (K : PySem.W.Frag) (mg : Str → Option Value) (base : Heap) (CX : CXT) (k : Nat)
    (f : Addr) (fd : FuncData) (ps : List Str) (sp : Sp) : Prop where
  sz : ∀ vs H Q E, sp vs H Q E → vs.length = ps.length
  go : ∀ (A : Around) (out : List Env) (s : Shared) (H : Hp) (ar : Args) (us : List Value) (vs : List V) (Q : VK) (E : XK),
    Calm A → Room k A → Env0 P w K mg base A out s H → BindsTo s fd ar (ps.zip us) → Vals vs us → sp vs H Q E →
    codeAny (model P w) A (.call (.ref f) ar) (CR CX out P w H s Q E) s

section
variable {P : Program} {w : World} {K : PySem.W.Frag} {mg : Str → Option Value} {base : Heap} {CX : CXT}
  {j k : Nat} {f : Addr} {fd : FuncData} {ps : List Str} {sp : Sp}
theorem FnG.of (F : FnOk P w K mg base CX k f fd ps sp) : FnG P w K mg base CX k f fd ps sp :=
  ⟨F.len, fun A out s H ar us vs Q E _ r e b v h => F.run A out s H ar us vs Q E r e b v h⟩
theorem FnG.mono (F : FnG P w K mg base CX j f fd ps sp) (h : j ≤ k) : FnG P w K mg base CX k f fd ps sp :=
  ⟨F.sz, fun A out s H ar us vs Q E c r => F.go A out s H ar us vs Q E c (r.mono h)⟩
end

section
variable {X : Cx} {CX : CXT} {k : Nat} {f : Addr} {fd : FuncData} {ps : List Str} {sp : Sp} {dvs : List V} {ds : List Value} {E : XK}
  {x : Str} {p pos : Pos} {e : Expr} {es : List Expr} {t : TA}
theorem go_fn {pins : List (Addr × Obj)} {σ : L2.St} {H : Hp} {s : Shared} {Q : VK} {us : List Value} {vs : List V}
    (F : FnG X.prog X.w X.K X.mg X.base CX k f fd ps sp) (cm : Calm X.A) (hr : Room k X.A) (hb : Binds X.K fd ps ds) (hd : Vals dvs ds)
    (hx : Passes CX X E) (I : Inv X pins σ H s) (r : Vals vs us) (h : sp (vs ++ dvs) H Q E) :
    wpAny (model X.prog X.w) X.A (call (.ref f) us) (EP X pins σ Q) X.xe s := by
  have rr : Vals (vs ++ dvs) (us ++ ds) := r.append hd
  have hl : (us ++ ds).length = ps.length := rr.length.symm.trans (F.sz _ _ _ _ h)
  have g := F.go X.A X.stack s H ⟨us, []⟩ (us ++ ds) (vs ++ dvs) Q E cm hr I.env0 (hb s us I.kIn hl) rr h
  refine wpAny_call (codeAny_mono g fun z s2 q => ?_)
  match z, q with
  | .error e, q => exact hx pins σ H s e s2 I q
  | .ok (.ret u), q => exact I.after q
  | .ok .next, q => exact False.elim q
  | .ok .brk, q => exact False.elim q
  | .ok .cont, q => exact False.elim q
/-- f(e, ..) -/
theorem pe_callG (F : FnG X.prog X.w X.K X.mg X.base CX k f fd ps sp) (cm : Calm X.A) (hr : Room k X.A) (hg : Gl X x) (hm : X.mg x = some (.ref f))
    (hk : PySem.W.keepIn X.K (.ref f) = true) (hb : Binds X.K fd ps ds) (hd : Vals dvs ds) (hx : Passes CX X E) (ha : PA X (e :: es) t)
    (hdb : (x == ("__debug__" : Str)) = false := by decide)
    (he : starEach (e :: es) X.env = (false, eval e X.env) :: starEach es X.env := by rfl)
    (hpl : (backTo pos (starEach es X.env)).any (·.1) = false := by rfl) :
    PE X (.Call (.Name x p) (e :: es) [] pos) (tCall sp dvs E t) :=
  ⟨fun pins s σ H Q I h => wpAny_Call_Name_kw (ld_glob I hg hm (PySem.W.callWith_K (h₀ := X.base) I.ok.mod.kin hk
    (thn (ha.run pos pins s σ H _ I h) fun us s1 ⟨vs, H1, I1, r, q⟩ => ⟨I1.kIn, go_fn F cm hr hb hd hx I1 r q⟩) he hpl) hdb)⟩
end

/-- the rule for a def, its body walked where no repr is under way -/
theorem okG {P : Program} {w : World} {K : PySem.W.Frag} {mg : Str → Option Value} {base : Heap} {nm qual : Str} {st : Stmt} {f : Addr} {fd : FuncData}
    {N ps : List Str} {k : Nat} {sp : Sp} (F : Fun K nm qual st f fd) (S : FnScope N ps (defScope st))
    (len : ∀ vs H Q E, sp vs H Q E → vs.length = ps.length)
    (body : ∀ (cdv : Value) (A : Around) (out : List Env) (s : Shared) (H : Hp) (vs : List V) (Q : VK) (E : XK), Calm A →
      Room k (A.deeper (envOfC qual (defScope st) s.heap.objs.size f cdv)) → sp vs H Q E →
      ∃ t, PSs (cxOf CX0 P w K mg base N qual (defScope st) f cdv A out s H E).nox (defBody st) t ∧ t { nx := fun _ H2 => Q .non H2, rt := Q } (start N vs) H) :
    FnG P w K mg base CX0 (k + 1) f fd ps sp := by
  obtain ⟨oc, od, kV, doc, pm, an, cdv, ct, osl, rfl, lk, hcd⟩ := F.ex
  refine ⟨len, fun A out s H ar us vs Q E cm hr e0 hb r hsp => ?_⟩
  have hl := len _ _ _ _ hsp
  have KX : K.In s.heap := e0.mod.kin.keeps fun b o e => (e0.bs b o e).1
  have lim : s.heap.NoLimit := e0.mod.nolimit.keeps fun b o e => (e0.bs b o e).1
  have hkind : ∀ y ∈ ps.zip us, (defScope st).names.lookup y.1 = some .local ∨ ((defScope st).names.lookup y.1 = some .cell ∧
      ((cellsFrom (s.heap.objs.size + 1) (defScope st).names []).lookup y.1).isSome = true) := fun y hy =>
    (S.par y.1 (List.of_mem_zip (a := y.1) (b := y.2) hy).1).elim .inl fun q => .inr ⟨q, PySem.W.cellsFrom_some _ _ _ (.inl q)⟩
  refine codeAny_call_function hr.depth (KX _ _ lk) rfl S.co S.gen rfl (PySem.W.codeRec_of KX hcd) (hb _ _ _ _ ?_)
  refine wpAny_newFunctionEnv_cells S.kind hkind fun env he s1 x => ?_
  subst he
  obtain ⟨t, ht, hq⟩ := body cdv A out s H vs Q E cm (hr.deeper _) hsp
  have I : Inv (cxOf CX0 P w K mg base N qual (defScope st) f cdv A out s H E) [] (start N vs) H s1 := inv_start S hr.hd e0 hl r x
  refine ⟨lim.keeps x.toInCall.keep, codeAny_func (wpAny_mono (ht.nox.run [] s1 (start N vs) H _ I hq) (fun fl s2 hs => ?_) fun _ _ z => z)⟩
  have fin : ∀ {σ2 : L2.St} {H2 : Hp} {v : V} {u : Value}, Inv (cxOf CX0 P w K mg base N qual (defScope st) f cdv A out s H E) [] σ2 H2 s2 →
      RelV v u → Q v H2 → CE out P w H s Q u s2 := fun {_ H2 v _} J rv q => ⟨v, H2, J.os, J.bare, J.base, J.hok, rv, q⟩
  match fl, hs with
  | .ret u, ⟨v, σ2, H2, J, rv, q⟩ => exact fin J rv q
  | .next, ⟨σ2, H2, J, q⟩ => exact fin (v := V.non) (u := Value.none) J rfl q
  | .brk, ⟨_, _, _, q⟩ => exact False.elim q
  | .cont, ⟨_, _, _, q⟩ => exact False.elim q
end Vf

/-! Part B: the law's own head, over promises that know that no repr is under way. -/
namespace Vf
open PySem PySem.Spec PyProof.Rows L2

section
variable {P : Program} {w : World} {K : PySem.W.Frag} {mg mb : Str → Option Value} {k : Nat} {fa a : Addr} {fd : FuncData} {x : Str} {sp : Sp}
  {S : Shared} {vs : List Value} {ns : List Int}
abbrev scrObj (vs : List Value) : Obj := { cls := .type "list", data := .seq vs.toArray }
/-- what the law's call must come to -/
abbrev Ends1 (S : Shared) (r : Result) (s2 : Shared) : Prop := r = .ok (.ret (.bool true)) ∧ OldK S.heap s2.heap ∧ s2.os = S.os ∧ AllBare s2.gens
/-- from a heap in which at most the script is tracked -/
theorem law_from {H : Hp} (KX : K.In S.heap) (n1 : S.heap.Ns mainGlobals mg) (n2 : S.heap.Ns builtinsNs mb) (bb : ∀ y : Str, y ≠ "__name__" → mb y = bootBuiltins y)
    (lm : S.heap.NoLimit) (g0 : S.gens = #[]) (ha : S.heap.get? a = some (scrObj vs)) (hr : Room k callerA)
    (F : ∀ base : Heap, K.In base → base.Ns mainGlobals mg → FnG P w K mg base CX0 k fa fd [x] sp) (hbind : ∀ (s : Shared) (u : Value), BindsTo s fd ⟨[u], []⟩ [(x, u)])
    (hO : Only H) (ok : HOk P w H S.heap) (hA : ∀ b u, H b = some u → b = a ∧ K.lookup a = none)
    (h : sp [.ref a] H (fun v _ => v = .bl true) fun _ _ _ => False) :
    codeAny (model P w) callerA (.call (.ref fa) ⟨[.ref a], []⟩) (Ends1 S) S := by
  have un : ∀ {b : Addr} {o : Obj} {es : Array DictEntry} {ep : Nat}, S.heap.get? b = some o → o.data = .dict es ep → H b = none := fun {b o es ep} e d => by
    cases q : H b with
    | none => rfl
    | some u =>
      obtain ⟨rfl, _⟩ := hA b u q
      rw [ha] at e
      cases e
      exact nomatch (show Data.seq vs.toArray _ = Data.dict es ep from d)
  have nsB : ∀ {b : Addr} {m : Str → Option Value}, S.heap.Ns b m → (hidT S.heap H).Ns b m := fun {b m} ⟨o, es, ep, e, d, r⟩ =>
    ⟨o, es, ep, hidT_get e (un e d), d, r⟩
  have kB : K.In (hidT S.heap H) := fun b o e => hidT_get (KX b o e) (by
    cases q : H b with
    | none => rfl
    | some u =>
      obtain ⟨rfl, z⟩ := hA b u q
      rw [z] at e
      cases e)
  have M : Mod K mg (hidT S.heap H) := ⟨kB, nsB n1, ⟨mb, nsB n2, bb⟩, let ⟨mc, z1, z2⟩ := lm; ⟨mc, nsB z1, z2⟩⟩
  have e0 : Env0 P w K mg (hidT S.heap H) callerA [] S H :=
    ⟨rfl, M, fun b o e => of_hidT e, Nat.le_of_eq (hidT_size _ _), trivial, fun b z => (List.not_mem_nil (show b ∈ ([] : List Addr) from z)).elim, ok, .of_eq g0⟩
  refine codeAny_mono ((F _ kB (nsB n1)).go callerA [] S H ⟨[.ref a], []⟩ [.ref a] [.ref a] _ _ rfl hr e0 (hbind S (.ref a)) (.cons rfl .nil) h) fun r s2 q => ?_
  match r, q with
  | .error e, q => exact False.elim q
  | .ok .next, q => exact False.elim q
  | .ok .brk, q => exact False.elim q
  | .ok .cont, q => exact False.elim q
  | .ok (.ret u), ⟨v, H2, os, bare, U, ok2, rv, qv⟩ =>
    subst qv
    obtain rfl : u = Value.bool true := rv
    refine ⟨rfl, OldK.of_keep fun b o e => ?_, os, bare⟩
    rcases hO b with z | ⟨ob, xs, z⟩
    · exact U.keep b o e z (fun y => List.not_mem_nil (show b ∈ ([] : List Addr) from y)) (fun y => List.not_mem_nil y)
    · obtain ⟨z1, _⟩ := ok b _ z
      obtain ⟨z2, _⟩ := ok2 b _ (U.frzs b ob _ z)
      rw [e] at z1
      cases z1
      exact z2
theorem law_run (KX : K.In S.heap) (n1 : S.heap.Ns mainGlobals mg) (n2 : S.heap.Ns builtinsNs mb) (bb : ∀ y : Str, y ≠ "__name__" → mb y = bootBuiltins y)
    (lm : S.heap.NoLimit) (g0 : S.gens = #[]) (ha : S.heap.get? a = some (scrObj vs)) (hi : IntsAre vs ns) (hl : ns.length ≤ sizeLine) (hr : Room k callerA)
    (F : ∀ base : Heap, K.In base → base.Ns mainGlobals mg → FnG P w K mg base CX0 k fa fd [x] sp) (hbind : ∀ (s : Shared) (u : Value), BindsTo s fd ⟨[u], []⟩ [(x, u)])
    (hsp : ∀ H : Hp, Only H → SqL K H a (ns.map V.int) → sp [.ref a] H (fun v _ => v = .bl true) fun _ _ _ => False) :
    codeAny (model P w) callerA (.call (.ref fa) ⟨[.ref a], []⟩) (Ends1 S) S := by
  have rv := vals_ints hi
  have lV := hi.length
  cases hk : K.lookup a with
  | some o =>
    have e := KX a o hk
    rw [ha] at e
    cases e
    have o1 : Only (fun _ => none) := fun _ => .inl rfl
    refine law_from (H := fun _ => none) KX n1 n2 bb lm g0 ha hr F hbind o1 (fun b u z => nomatch (show (none : Option HO) = some u from z)) (fun b u z => nomatch (show (none : Option HO) = some u from z)) (hsp _ o1 ?_)
    exact .inr ⟨_, vs.toArray, _, hk, rfl, rfl, rfl, by rw [List.size_toArray, lV]; exact hl, by simpa using rv⟩
  | none =>
    have at1 : ∀ {b : Addr} {u : HO}, (if b = a then some (HO.frz (scrObj vs) (.lst (ns.map V.int))) else none) = some u → b = a ∧ u = .frz (scrObj vs) (.lst (ns.map V.int)) := fun {b u} z => by
      by_cases hb : b = a
      · rw [if_pos hb] at z
        exact ⟨hb, (Option.some.inj z).symm⟩
      · rw [if_neg hb] at z
        cases z
    have o1 : Only (fun b => if b = a then some (.frz (scrObj vs) (.lst (ns.map V.int))) else none) := fun b => by
      by_cases hb : b = a
      · exact .inr ⟨_, _, if_pos hb⟩
      · exact .inl (if_neg hb)
    refine law_from (H := fun b => if b = a then some (.frz (scrObj vs) (.lst (ns.map V.int))) else none) KX n1 n2 bb lm g0 ha hr F hbind o1 (fun b u z => ?_) (fun b u z => ⟨(at1 z).1, hk⟩) (hsp _ o1 (.inl (.inr ⟨scrObj vs, if_pos rfl⟩)))
    obtain ⟨rfl, rfl⟩ := at1 z
    exact ⟨ha, by rw [List.length_map]; exact hl, vs, _, rv, ha⟩
end

/-- the goal that the head leaves -/
theorem walkG {l : PySem.W.OpenLaw} {n k : Nat} {q : Program} {loose : List Str} {XP : (Str → Option Value) → Heap → Prop} {YP : World → Heap → Prop} {d : DefRec}
    {K : Params → PySem.W.Frag} {sp : PySem.W.Frag → Sp} {x : Str} (hn : l.most = some n) (hn2 : n ≤ sizeLine) (hdf : d.params.defaults = []) (hr : Room k callerA)
    (hY : ∀ (w : World) (h : Heap), YP w h → (K w.params).In h)
    (F : ∀ (w : World) (mg : Str → Option Value) (fa : Addr) (h : Heap), (K w.params).In h → h.Ns mainGlobals mg → mg d.name = some (.ref fa) →
      ∃ fd : FuncData, (∀ (s : Shared) (u : Value), BindsTo s fd ⟨[u], []⟩ [(x, u)]) ∧
        ∀ base : Heap, (K w.params).In base → base.Ns mainGlobals mg → FnG l.prog w (K w.params) mg base CX0 k fa fd [x] (sp (K w.params)))
    (hsp : ∀ (K : PySem.W.Frag) (H : Hp) (a : Addr) (ns : List Int), ns.length ≤ n → Only H → SqL K H a (ns.map V.int) → sp K [.ref a] H (fun v _ => v = .bl true) fun _ _ _ => False) :
    PySem.W.WalkO q loose XP YP l.row.toRowW d [] (fun f vs => PySem.call f vs) := by
  refine Att.attach_call hn hdf fun w s0 s1 mg mb fa o pm cd doc a vs ns G Y ho hd hcd hmg hobj hints hlen hg => ?_
  obtain ⟨fd, hb, hF⟩ := F w mg fa _ (hY w _ Y) G.T.g hmg
  exact law_run (hY w _ Y) G.T.g G.T.b G.T.builtins G.T.nolimit hg hobj hints (Nat.le_trans hlen hn2) hr hF hb fun H hO hS => hsp _ H a ns hlen hO hS
end Vf

/-! Part C: data in the heap; repr, isinstance, == [], wide powers. -/
namespace Vf
open PySem PySem.Spec PyProof.Rows L2

/-! ### data -/
def keyD : Key → PyData
  | .inl i => .int i
  | .inr x => .str x
mutual
/-- the value v is the data d in the heap H -/
inductive Dq (H : Hp) : V → PyData → Prop
  | non : Dq H .non .none
  | bl (b : Bool) : Dq H (.bl b) (.bool b)
  | int (i : Int) : Dq H (.int i) (.int i)
  | str (x : Str) : Dq H (.str x) (.str x)
  | lst {a : Addr} {xs : List V} {ds : List PyData} : H a = some (.lst xs) → DqAll H xs ds → Dq H (.ref a) (.list ds)
  | tup {a : Addr} {xs : List V} {ds : List PyData} : H a = some (.tup xs) → DqAll H xs ds → Dq H (.ref a) (.tuple ds)
  | dct {a : Addr} {kvs : List (Key × V)} {ds : List (PyData × PyData)} : H a = some (.dK kvs) → ds.map (·.1) = kvs.map (fun kv => keyD kv.1) →
      DqAll H (kvs.map (·.2)) (ds.map (·.2)) → Dq H (.ref a) (.dict ds)
inductive DqAll (H : Hp) : List V → List PyData → Prop
  | nil : DqAll H [] []
  | cons {v : V} {vs : List V} {d : PyData} {ds : List PyData} : Dq H v d → DqAll H vs ds → DqAll H (v :: vs) (d :: ds)
end
mutual
/-- no list in it -/
def noList : PyData → Bool
  | .list _ => false
  | .tuple xs => noListA xs
  | .dict kvs => noListK kvs
  | _ => true
def noListA : List PyData → Bool
  | [] => true
  | x :: xs => noList x && noListA xs
def noListK : List (PyData × PyData) → Bool
  | [] => true
  | kv :: r => noList kv.1 && noList kv.2 && noListK r
end
abbrev Ext (H H' : Hp) : Prop := ∀ b o, H b = some o → H' b = some o
mutual
theorem Dq.ext {H H' : Hp} (e : Ext H H') : ∀ {v : V} {d : PyData}, Dq H v d → Dq H' v d
  | _, _, .non => .non
  | _, _, .bl b => .bl b
  | _, _, .int i => .int i
  | _, _, .str x => .str x
  | _, _, .lst h r => .lst (e _ _ h) (r.ext e)
  | _, _, .tup h r => .tup (e _ _ h) (r.ext e)
  | _, _, .dct h k r => .dct (e _ _ h) k (r.ext e)
theorem DqAll.ext {H H' : Hp} (e : Ext H H') : ∀ {vs : List V} {ds : List PyData}, DqAll H vs ds → DqAll H' vs ds
  | _, _, .nil => .nil
  | _, _, .cons h r => .cons (h.ext e) (r.ext e)
end
theorem DqAll.len {H : Hp} : ∀ {vs : List V} {ds : List PyData}, DqAll H vs ds → vs.length = ds.length
  | _, _, .nil => rfl
  | _, _, .cons _ r => congrArg (· + 1) r.len
theorem DqAll.at {H : Hp} : ∀ {vs : List V} {ds : List PyData} {i : Nat} {v : V}, DqAll H vs ds → vs[i]? = some v → ∃ d, ds[i]? = some d ∧ Dq H v d
  | _, _, _, _, .nil, e => by cases e
  | _, _, 0, v, .cons h _, e => ⟨_, rfl, by cases e; exact h⟩
  | _, _, i + 1, v, .cons _ r, e => r.at (i := i) e
theorem DqAll.app {H : Hp} : ∀ {vs ws : List V} {ds es : List PyData}, DqAll H vs ds → DqAll H ws es → DqAll H (vs ++ ws) (ds ++ es)
  | _, _, _, _, .nil, s => s
  | _, _, _, _, .cons h r, s => .cons h (r.app s)
theorem DqAll.take {H : Hp} : ∀ {vs : List V} {ds : List PyData} (n : Nat), DqAll H vs ds → DqAll H (vs.take n) (ds.take n)
  | _, _, 0, _ => .nil
  | _, _, _ + 1, .nil => .nil
  | _, _, n + 1, .cons h r => .cons h (r.take n)
theorem DqAll.drop {H : Hp} : ∀ {vs : List V} {ds : List PyData} (n : Nat), DqAll H vs ds → DqAll H (vs.drop n) (ds.drop n)
  | _, _, 0, r => r
  | _, _, _ + 1, .nil => .nil
  | _, _, n + 1, .cons _ r => r.drop n
theorem DqAll.ints {H : Hp} : ∀ ns : List Int, DqAll H (ns.map V.int) (ns.map PyData.int)
  | [] => .nil
  | n :: r => .cons (.int n) (DqAll.ints r)
theorem DqAll.bools {H : Hp} : ∀ bs : List Bool, DqAll H (bs.map V.bl) (bs.map PyData.bool)
  | [] => .nil
  | b :: r => .cons (.bl b) (DqAll.bools r)

section
variable {X : Cx} {pins : List (Addr × Obj)} {σ : L2.St} {H : Hp} {s : Shared}
theorem pairs_keys {P : Program} {w : World} {H : Hp} {h : Heap} : ∀ {es : List DictEntry} {kvs : List (Key × Value)} , Pairs (mixKind P w) es kvs →
    ∀ {ds : List PyData}, ds = kvs.map (fun kv => keyD kv.1) → ∃ as, ReadsAll h (es.map (·.key)) ds as ∧ as = []
  | _, _, .nil, _, rfl => ⟨_, ReadsAll.nil, rfl⟩
  | _, _, .cons (e := e) (kv := kv) h1 _ r, _, rfl => by
    obtain ⟨as, q, rfl⟩ := pairs_keys (H := H) r rfl
    have h2 : keyIs kv.1 e.key = true := h1
    rcases keyIs_shape h2 with ⟨i, t, e1, e2⟩ | ⟨x, t, e1, e2⟩
    · refine ⟨[] ++ [], ReadsAll.cons ?_ q, rfl⟩
      show Reads h e.key (keyD kv.1) []
      rw [e1, e2]
      exact Reads.int i t
    · refine ⟨[] ++ [], ReadsAll.cons ?_ q, rfl⟩
      show Reads h e.key (keyD kv.1) []
      rw [e1, e2]
      exact Reads.str x t
theorem pairs_vals {P : Program} {w : World} : ∀ {es : List DictEntry} {kvs : List (Key × Value)} , Pairs (mixKind P w) es kvs → es.map (·.val) = kvs.map (·.2)
  | _, _, .nil => rfl
  | _, _, .cons _ h2 r => by rw [List.map_cons, List.map_cons, h2, pairs_vals r]
theorem kv_vals : ∀ {ks : List (Key × V)} {us : List (Key × Value)}, KV ks us → Vals (ks.map (·.2)) (us.map (·.2))
  | _, _, .nil => .nil
  | _, _, .cons h r => .cons h.2 (kv_vals r)
theorem kv_keys : ∀ {ks : List (Key × V)} {us : List (Key × Value)}, KV ks us → ks.map (fun kv => keyD kv.1) = us.map (fun kv => keyD kv.1)
  | _, _, .nil => rfl
  | _, _, .cons h r => by rw [List.map_cons, List.map_cons, h.1, kv_keys r]
mutual
/-- such data are read off the heap; where no list is in them all that is noted is a dict, not the modules' one -/
theorem Dq.rd (I : Inv X pins σ H s) : ∀ {v : V} {d : PyData} {u : Value}, Dq H v d → RelV v u → ∃ as, Reads s.heap u d as ∧ (noList d = true → sysModules ∉ as)
  | _, _, _, .non, r => by cases r; exact ⟨_, Reads.none, fun _ z => nomatch z⟩
  | _, _, _, .bl b, r => by cases r; exact ⟨_, Reads.bool b, fun _ z => nomatch z⟩
  | _, _, _, .int i, r => by obtain ⟨t, rfl⟩ := r; exact ⟨_, Reads.int i t, fun _ z => nomatch z⟩
  | _, _, _, .str x, r => by obtain ⟨t, rfl⟩ := r; exact ⟨_, Reads.str x t, fun _ z => nomatch z⟩
  | _, _, _, .lst h q, r => by
    cases r
    obtain ⟨its, rv, ⟨o, n, ho, hc, _, hd⟩, _⟩ := I.list (SqL.of h)
    obtain ⟨as, hr, _⟩ := DqAll.rd I q rv
    exact ⟨_, Reads.list ho hc hd hr, fun z => by simp [noList] at z⟩
  | _, _, _, .tup h q, r => by
    cases r
    obtain ⟨its, rv, ⟨o, ho, hc, n, hd⟩, _⟩ := I.tuple (SqT.of h)
    obtain ⟨as, hr, na⟩ := DqAll.rd I q rv
    exact ⟨_, Reads.tuple ho hc hd hr, fun z => na (by simpa [noList] using z)⟩
  | _, .dict ds, _, .dct (a := a) (kvs := kvs) h k q, r => by
    cases r
    obtain ⟨_, ns, vs, rkv, o, es, ep, ho, ex, hd, _, pr, _⟩ := (show ObjOk X.prog X.w H s.heap a (.dK kvs) from I.hok a _ h)
    obtain ⟨as, h1, rfl⟩ := pairs_keys (H := H) (h := s.heap) pr (ds := ds.map (·.1)) (k.trans (kv_keys rkv))
    obtain ⟨bs, h2, nb⟩ := DqAll.rd I q (kv_vals rkv)
    refine ⟨_, Reads.dict ho ex.1 hd h1 (by rw [pairs_vals pr]; exact h2), fun z hm => ?_⟩
    rcases List.mem_append.mp hm with hm | hm
    · rcases List.mem_cons.mp hm with e | e
      · rw [← e] at ns
        exact absurd ns (by decide)
      · cases e
    · refine nb ?_ hm
      have all : ∀ (l : List (PyData × PyData)), noListK l = true → noListA (l.map (·.2)) = true := by
        intro l
        induction l with
        | nil => intro _; rfl
        | cons p r ih =>
          intro z
          simp only [noListK, Bool.and_eq_true] at z
          simp only [List.map_cons, noListA, Bool.and_eq_true]
          exact ⟨z.1.2, ih z.2⟩
      exact all ds (by simpa [noList] using z)
theorem DqAll.rd (I : Inv X pins σ H s) : ∀ {vs : List V} {ds : List PyData} {us : List Value}, DqAll H vs ds → Vals vs us → ∃ as, ReadsAll s.heap us ds as ∧ (noListA ds = true → sysModules ∉ as)
  | _, _, _, .nil, r => by cases r; exact ⟨_, ReadsAll.nil, fun _ z => nomatch z⟩
  | _, _, _, .cons h q, r => by
    cases r with
    | cons r1 r2 =>
      obtain ⟨as, q1, n1⟩ := Dq.rd I h r1
      obtain ⟨bs, q2, n2⟩ := DqAll.rd I q r2
      refine ⟨_, ReadsAll.cons q1 q2, fun z hm => ?_⟩
      simp only [noListA, Bool.and_eq_true] at z
      rcases List.mem_append.mp hm with hm | hm
      · exact n1 z.1 hm
      · exact n2 z.2 hm
end
end

/-! ### repr -/
/-- what repr needs of data -/
structure Tells (d : PyData) : Prop where
  sh : d.showable = true
  nd : d.hasDict = true → noList d = true
  dp : d.depth ≤ 60
  sz : d.shown.length ≤ sizeLine
def rRepr : List V → Hp → VK → Prop := fun xs H Q => ∃ x d, xs = [x] ∧ Dq H x d ∧ Tells d ∧ Q (.str d.shown) H
theorem call_repr {X : Cx} (cm : Calm X.A) (hu : X.A.units + 64 < cLine) : CallR X (.builtin "repr") rRepr := by
  intro pins s σ H xs us Q I r h
  obtain ⟨x, d, rfl, hd, T, q⟩ := h
  obtain ⟨u, rfl, rx⟩ := vals1 r
  have main : ∀ a : Addr, x = .ref a → wpAny (model X.prog X.w) X.A (call (.builtin "repr") [u]) (EP X pins σ Q) X.xe s := by
    rintro a rfl
    obtain ⟨as, rd, na⟩ := Dq.rd I hd rx
    cases (show u = Value.ref a from rx)
    have dp := T.dp
    exact repr_of_reads' rd T.sh (fun z => na (T.nd z)) cm (by omega) (fun _ _ e => e) (fun h' v tk k => ⟨.str d.shown, H, I.kept k, ⟨_, rfl⟩, q⟩) T.sz
  cases hd with
  | non => cases rx; exact P.repr_of_none ⟨.str _, H, I.tok _, ⟨_, rfl⟩, q⟩
  | bl b =>
    cases rx
    refine P.repr_of_bool ⟨.str _, H, I.tok _, ⟨_, rfl⟩, ?_⟩
    rw [PyData.shown_bool] at q
    cases b <;> exact q
  | int i =>
    obtain ⟨t, rfl⟩ := rx
    have hz : i.natAbs.log2 < 1920 := by simpa [PyData.showable] using T.sh
    exact P.repr_of_int hz ⟨.str _, H, I.tok _, ⟨_, rfl⟩, q⟩
  | str y =>
    obtain ⟨t, rfl⟩ := rx
    exact P.repr_of_str (hsz := T.sz) ⟨.str _, H, I.tok _, ⟨_, rfl⟩, q⟩
  | lst h1 h2 => exact main _ rfl
  | tup h1 h2 => exact main _ rfl
  | dct h1 h2 h3 => exact main _ rfl

/-! ### isinstance -/
def tyN : PyData → String
  | .none => "NoneType"
  | .bool _ => "bool"
  | .int _ => "int"
  | .str _ => "str"
  | .list _ => "list"
  | .tuple _ => "tuple"
  | .dict _ => "dict"
theorem Dq.ty {K : PySem.W.Frag} {H : Hp} {v : V} {d : PyData} (h : Dq H v d) : TyX K H v (.type (tyN d)) := by
  cases h with
  | non => exact .base .non
  | bl b => exact .base (.bl b)
  | int i => exact .base (.int i)
  | str x => exact .base (.str x)
  | lst h _ => exact .base (.lst h)
  | tup h _ => exact .base (.tup h)
  | dct h _ _ => exact .base (.dK h)
def isInt : PyData → Bool
  | .int _ => true
  | .bool _ => true
  | _ => false
def isBool : PyData → Bool
  | .bool _ => true
  | _ => false
def isStr : PyData → Bool
  | .str _ => true
  | _ => false
def isTup : PyData → Bool
  | .tuple _ => true
  | _ => false
def isLst : PyData → Bool
  | .list _ => true
  | _ => false
def isDct : PyData → Bool
  | .dict _ => true
  | _ => false
theorem kb_all (n : String) (f : PyData → Bool) (h0 : kitB "NoneType" n = some (f .none)) (h1 : ∀ b, kitB "bool" n = some (f (.bool b))) (h2 : ∀ i, kitB "int" n = some (f (.int i)))
    (h3 : ∀ x, kitB "str" n = some (f (.str x))) (h4 : ∀ x, kitB "list" n = some (f (.list x))) (h5 : ∀ x, kitB "tuple" n = some (f (.tuple x))) (h6 : ∀ x, kitB "dict" n = some (f (.dict x))) :
    ∀ d : PyData, kitB (tyN d) n = some (f d)
  | .none => h0
  | .bool b => h1 b
  | .int i => h2 i
  | .str x => h3 x
  | .list x => h4 x
  | .tuple x => h5 x
  | .dict x => h6 x
theorem kb_int : ∀ d : PyData, kitB (tyN d) "int" = some (isInt d) := kb_all "int" isInt (show kitB "NoneType" "int" = some false by decide +kernel) (fun _ => (show kitB "bool" "int" = some true by decide +kernel)) (fun _ => (show kitB "int" "int" = some true by decide +kernel)) (fun _ => (show kitB "str" "int" = some false by decide +kernel)) (fun _ => (show kitB "list" "int" = some false by decide +kernel)) (fun _ => (show kitB "tuple" "int" = some false by decide +kernel)) (fun _ => (show kitB "dict" "int" = some false by decide +kernel))
theorem kb_bool : ∀ d : PyData, kitB (tyN d) "bool" = some (isBool d) := kb_all "bool" isBool (show kitB "NoneType" "bool" = some false by decide +kernel) (fun _ => (show kitB "bool" "bool" = some true by decide +kernel)) (fun _ => (show kitB "int" "bool" = some false by decide +kernel)) (fun _ => (show kitB "str" "bool" = some false by decide +kernel)) (fun _ => (show kitB "list" "bool" = some false by decide +kernel)) (fun _ => (show kitB "tuple" "bool" = some false by decide +kernel)) (fun _ => (show kitB "dict" "bool" = some false by decide +kernel))
theorem kb_str : ∀ d : PyData, kitB (tyN d) "str" = some (isStr d) := kb_all "str" isStr (show kitB "NoneType" "str" = some false by decide +kernel) (fun _ => (show kitB "bool" "str" = some false by decide +kernel)) (fun _ => (show kitB "int" "str" = some false by decide +kernel)) (fun _ => (show kitB "str" "str" = some true by decide +kernel)) (fun _ => (show kitB "list" "str" = some false by decide +kernel)) (fun _ => (show kitB "tuple" "str" = some false by decide +kernel)) (fun _ => (show kitB "dict" "str" = some false by decide +kernel))
theorem kb_tuple : ∀ d : PyData, kitB (tyN d) "tuple" = some (isTup d) := kb_all "tuple" isTup (show kitB "NoneType" "tuple" = some false by decide +kernel) (fun _ => (show kitB "bool" "tuple" = some false by decide +kernel)) (fun _ => (show kitB "int" "tuple" = some false by decide +kernel)) (fun _ => (show kitB "str" "tuple" = some false by decide +kernel)) (fun _ => (show kitB "list" "tuple" = some false by decide +kernel)) (fun _ => (show kitB "tuple" "tuple" = some true by decide +kernel)) (fun _ => (show kitB "dict" "tuple" = some false by decide +kernel))
theorem kb_list : ∀ d : PyData, kitB (tyN d) "list" = some (isLst d) := kb_all "list" isLst (show kitB "NoneType" "list" = some false by decide +kernel) (fun _ => (show kitB "bool" "list" = some false by decide +kernel)) (fun _ => (show kitB "int" "list" = some false by decide +kernel)) (fun _ => (show kitB "str" "list" = some false by decide +kernel)) (fun _ => (show kitB "list" "list" = some true by decide +kernel)) (fun _ => (show kitB "tuple" "list" = some false by decide +kernel)) (fun _ => (show kitB "dict" "list" = some false by decide +kernel))
theorem kb_dict : ∀ d : PyData, kitB (tyN d) "dict" = some (isDct d) := kb_all "dict" isDct (show kitB "NoneType" "dict" = some false by decide +kernel) (fun _ => (show kitB "bool" "dict" = some false by decide +kernel)) (fun _ => (show kitB "int" "dict" = some false by decide +kernel)) (fun _ => (show kitB "str" "dict" = some false by decide +kernel)) (fun _ => (show kitB "list" "dict" = some false by decide +kernel)) (fun _ => (show kitB "tuple" "dict" = some false by decide +kernel)) (fun _ => (show kitB "dict" "dict" = some true by decide +kernel))
theorem isi_gen {K : PySem.W.Frag} {H : Hp} {Q : VK} {v : V} {d : PyData} {n : String} {b : Bool} (h : Dq H v d) (e : kitB (tyN d) n = some b) (q : Q (.bl b) H) : rIsi K [v, .ty n] H Q :=
  ⟨v, .ty n, .type (tyN d), .type n, b, rfl, .ty n, h.ty, kit_ty e, q⟩
theorem isi_int {K : PySem.W.Frag} {H : Hp} {Q : VK} {v : V} {d : PyData} (h : Dq H v d) (q : Q (.bl (isInt d)) H) : rIsi K [v, .ty "int"] H Q :=
  isi_gen h (kb_int d) q
theorem isi_bool {K : PySem.W.Frag} {H : Hp} {Q : VK} {v : V} {d : PyData} (h : Dq H v d) (q : Q (.bl (isBool d)) H) : rIsi K [v, .ty "bool"] H Q :=
  isi_gen h (kb_bool d) q
theorem isi_str {K : PySem.W.Frag} {H : Hp} {Q : VK} {v : V} {d : PyData} (h : Dq H v d) (q : Q (.bl (isStr d)) H) : rIsi K [v, .ty "str"] H Q :=
  isi_gen h (kb_str d) q
theorem isi_tup {K : PySem.W.Frag} {H : Hp} {Q : VK} {v : V} {d : PyData} (h : Dq H v d) (q : Q (.bl (isTup d)) H) : rIsi K [v, .ty "tuple"] H Q :=
  isi_gen h (kb_tuple d) q

/-! ### a list against an empty one -/
def rEqE (K : PySem.W.Frag) : R2 := fun x y H Q => ∃ a b xs, x = .ref a ∧ y = .ref b ∧ SqL K H a xs ∧ SqL K H b [] ∧ Q (.bl xs.isEmpty) H
theorem op_eqE {X : Cx} (hu : X.A.units < cLine) : OpR X (compareOp .Eq) (rEqE X.K) := by
  intro pins s σ H x y v u Q I rx ry h
  obtain ⟨a, b, xs, rfl, rfl, ha, hb, q⟩ := h
  cases rx
  cases ry
  obtain ⟨us, r1, p1, _⟩ := I.list ha
  obtain ⟨ws, r2, p2, _⟩ := I.list hb
  cases r2
  cases r1 with
  | nil => exact SeqAt.eq_listAt (e := fun _ => true) p1.isList p2.isList rfl hu (fun j h1 _ => absurd h1 (Nat.not_lt_zero _)) ⟨.bl _, H, I, rfl, q⟩
  | cons _ _ => exact SeqAt.eq_list_lengthsAt p1.isList p2.isList rfl hu ⟨.bl _, H, I, rfl, q⟩

/-! ### great powers -/
def CPowW (i j : Int) : Prop := 0 ≤ j ∧ (Builtin.Int.intBits i : Int) * j ≤ 2 ^ 27
theorem op_powW {X : Cx} : OpR X (binaryOp .Pow) (rI CPowW fun i j => .int (i ^ j.toNat)) := opI fun _ _ _ _ _ _ _ hc q => pow_int hc.1 hc.2 q
end Vf

/-! Part E: for i, x in enumerate(t), t a tuple. -/
namespace Vf
open PySem PySem.Spec PyProof.Rows L2

theorem meets_enum1 {v : Value} {o : Obj} {H : Heap → Prop} (B : Begins v o H) :
    Meets (Builtin.«enumerate.__new__» ⟨[.type "enumerate", v], []⟩) (fun _ R s => H s.heap ∧
      R (.ok (.ret (.ref (s.heap.push o).objs.size)))
        { s with heap := (s.heap.push o).push { cls := .type "enumerate", data := .fields #[.none, .bool false, .ref s.heap.objs.size, rawInt 0, .none, .none] } }) :=
  .of_wp fun prog w A R s h => by
    obtain ⟨hp, g, d, tk, os⟩ := s
    obtain ⟨h1, h⟩ := h
    have sb := sub_enumerate
    have q1 : ∀ {A' : Around} {E : Value → Shared → Prop} {Q : Value → Shared → Prop}, Q (.ref hp.objs.size) ⟨(hp.push o), g, d, tk, os⟩ → wpAny (model prog w) A' (pyIter v) Q E ⟨hp, g, d, tk, os⟩ :=
      fun q => B.iter prog w _ _ ⟨hp, g, d, tk, os⟩ _ (B.keeps _ _ h1 fun b o' e => e) q
    wp_walk
    refine wpAny_stack_any fun st => wpAny_pure ?_
    split
    · rename_i c _ _ _ _ _
      cases (c == Value.type "enumerate")
      all_goals
        wp_walk using q1
        exact ⟨_, rfl, h⟩
    · wp_walk using q1
      exact ⟨_, rfl, h⟩

theorem enum1 {prog : Program} {w : World} {A : Around} {E : Value → Shared → Prop} {s : Shared} {v : Value} {o : Obj} {H : Heap → Prop} {Q : Value → Shared → Prop} (B : Begins v o H) (h1 : H s.heap)
    (h : ∀ h', IsEnum h' (s.heap.objs.size + 1) s.heap.objs.size 0 .none → h'.get? s.heap.objs.size = some o →
      (∀ b o, s.heap.get? b = some o → h'.get? b = some o) → Q (.ref (s.heap.objs.size + 1)) { s with heap := h' }) :
    wpAny (model prog w) A (call (.type "enumerate") [v]) Q E s := by
  refine callType_new F.called_enumerate (by decide) (F.typeCall_enumerate_1 _) (F.newCall_enumerate_1 _) (fun obj => F.args_object_init_2 obj _) F.entry_enumerate_new
    (meets_enum1 B) ⟨h1, ?_⟩
  have hz : (s.heap.push o).objs.size = s.heap.objs.size + 1 := Heap.size_push ..
  show _ ∧ _
  have he := Heap.get?_push_size (s.heap.push o) (o := { cls := .type "enumerate", data := .fields #[.none, .bool false, .ref s.heap.objs.size, rawInt 0, .none, .none] }) rfl
  rw [hz] at he ⊢
  exact ⟨⟨_, he, rfl⟩, h _ he (Heap.get?_push_of_some _ (Heap.get?_push_size _ B.free)) fun b o x => Heap.get?_push_of_some _ (Heap.get?_push_of_some _ x)⟩

/-- the tuple at a, its items in new pairs with their places -/
def IteT (K : PySem.W.Frag) (a : Addr) : It where
  go := fun i H => ∃ (xs : List V) (x : V), SqT K H a xs ∧ xs[i]? = some x
  yld := fun i H v H' => ∃ T x, v = .ref T ∧ H T = none ∧ H' = upd H T (.tup [.int (i : Nat), x]) ∧ ∀ xs, SqT K H a xs → xs[i]? = some x
  stop := fun i H => ∃ xs : List V, SqT K H a xs ∧ xs.length ≤ i
theorem turn_enumT {P : Program} {w : World} {K : PySem.W.Frag} {elts : List Expr} {kk : Nat} {tpos : Pos} (a e it : Addr) :
    Turn P w K (.Tuple elts kk tpos) (IteT K a) [e, it] e (fun i h => (∃ old, IsEnum h e it ((i : Nat) : Int) old) ∧ h.IsTupleIter it a i ∧ e ≠ it ∧ a ≠ e ∧ a ≠ it) where
  mem := List.mem_cons_self
  obj := fun i h st b hb => by
    obtain ⟨⟨old, he⟩, ⟨o, ho, hc, hd⟩, _⟩ := st
    rcases List.mem_cons.mp hb with z | z
    · rw [z]
      exact ⟨_, he, fun v q => nomatch q⟩
    · rw [List.mem_singleton.mp z]
      exact ⟨o, ho, fun v q => by rw [hd] at q; cases q⟩
  keep := fun i h h' st k => by
    obtain ⟨⟨old, he⟩, hi, n1, n2, n3⟩ := st
    exact ⟨⟨old, k e List.mem_cons_self _ he⟩, hi.at fun o q => k it (List.mem_cons_of_mem _ List.mem_cons_self) o q, n1, n2, n3⟩
  item := by
    intro X hP hw hK hc i pins s σ H E I hf st hg
    subst hP hw hK
    obtain ⟨⟨old, he⟩, hit, hne, nae, nai⟩ := st
    obtain ⟨xs, x, hq, hx⟩ := hg
    obtain ⟨its, rv, p, hz⟩ := I.tuple hq
    obtain ⟨u, hu, ru⟩ := rv.get hx
    have hel : e < s.heap.objs.size := Heap.lt_size he
    have hil : it < s.heap.objs.size := by obtain ⟨_, q, _⟩ := hit; exact Heap.lt_size q
    have ilt : i < its.toArray.size := by
      have q := (List.getElem?_eq_some_iff.mp hu).1
      simpa using q
    have hh : X.A.in1.handled = none := I.ok.hd hc
    refine wpAny_pyNext_enum_itemD (Draws.tuple hh it a nai its.toArray) he ⟨hit, (show s.heap.IsTuple a its.toArray from p)⟩ ilt hne (fun z => ?_) fun y h' tk hy ho hst hT hsz hk => ?_
    · rcases List.mem_cons.mp z with z | z
      · exact hne z
      · exact nae (List.mem_singleton.mp z).symm
    have ey : y = u := by
      have q : its.toArray[i]? = some u := by simpa using hu
      exact Option.some.inj (hy.symm.trans q)
    subst ey
    refine ⟨_, rfl, wpAny_letOwnedTupleGo_enum (s := { s with heap := h', toks := tk + 1 }) ho fun h2 he2 sb => ?_⟩
    have hT2 : h2.get? s.heap.objs.size = some { cls := .type "tuple", data := .seq #[.int i tk, y] } := (sb.2 _ (Nat.ne_of_gt hel)).trans hT
    have new : ObjOk X.prog X.w (upd H s.heap.objs.size (.tup [.int (i : Nat), x])) h2 s.heap.objs.size (.tup [.int (i : Nat), x]) :=
      ⟨by show 2 ≤ sizeLine; decide, [.int i tk, y], .cons ⟨_, rfl⟩ (.cons ru .nil), ⟨_, hT2, rfl, _, rfl⟩⟩
    have I1 : Inv X pins σ (upd H s.heap.objs.size (.tup [.int (i : Nat), x])) { s with heap := h2, toks := tk + 1 } :=
      I.turnedNew (ch := [e, it]) (fun b ob hb q => (sb.2 b (fun z => hb (by simp [z]))).trans (hk b ob (fun z => hb (by simp [z])) (fun z => hb (by simp [z])) q)) hf (Nat.le_refl _) new
    refine ⟨.ref s.heap.objs.size, _, I1, rfl, ⟨_, x, rfl, I.hok.fresh (Nat.le_refl _), rfl, fun ys hy => by rw [I.tuple_inj hy hq]; exact hx⟩, ⟨⟨y, ?_⟩, hst.1.at fun o q => (sb.2 it (Ne.symm hne)).trans q, hne, nae, nai⟩, fun b hb => ?_⟩
    · rw [show ((i + 1 : Nat) : Int) = (i : Int) + 1 by omega]
      exact he2
    · have lt : b < s.heap.objs.size := by
        rcases List.mem_cons.mp hb with z | z
        · rw [z]; exact hel
        · rw [List.mem_singleton.mp z]; exact hil
      rw [upd_ne (Nat.ne_of_lt lt)]
      exact (hf b hb).1
  done := by
    intro X hP hw hK hc i pins s σ H E I hf st hg
    subst hP hw hK
    obtain ⟨⟨old, he⟩, hit, hne, nae, nai⟩ := st
    obtain ⟨xs, hq, hx⟩ := hg
    obtain ⟨its, rv, p, hz⟩ := I.tuple hq
    obtain ⟨f0, f1, f2, f3, f4, f5⟩ := hf it (List.mem_cons_of_mem _ List.mem_cons_self)
    have hl := rv.length
    have hT : s.TypeIs (.ref e) "enumerate" := ⟨_, he, rfl⟩
    have hh : X.A.in1.handled = none := I.ok.hd hc
    have en : its.toArray[i]? = none := by
      have q : its[i]? = none := List.getElem?_eq_none (by omega)
      simpa using q
    unfold pyNext
    refine wpAny_bind (wpAny_attempt (wpAny_callSpecial?_slot (name := Str.ofString "__next__") hT F.slot_enumerate_next
      (wpAny_call_entry F.slot_enumerate_next hT F.entry_enumerate_next ?_ (F.args_enumerate_next_1 _))))
    show wpAny _ _ (field (.ref e) 2 >>= _) _ _ _
    refine wpAny_bind (wpAny_field he rfl (x := .ref it) rfl ?_)
    refine wpAny_bind (wpAny_nextOf_tuple_end hh hit (show s.heap.IsTuple a its.toArray from p) en fun h' z eb hz' => ?_)
    obtain ⟨o, ho, hc'⟩ := hz'
    refine wpAny_bind (wpAny_isInstance (T := "StopIteration") (b := true) ⟨o, ho, hc'⟩ isSubtype_stop ?_)
    exact wpAny_pure ⟨rfl, I.turned (t' := s.toks) (fun b o hb q => eb b o hb q) f0 f1 f3 f4 f5⟩
  self := fun A i s Q E st h => let ⟨⟨_, he⟩, _⟩ := st; wpAny_pyIter_enum he h
def iEnumT (K : PySem.W.Frag) (ta : TA) : TI := fun σ H R => ta σ H fun vs H1 => ∃ a xs, vs = [.ref a] ∧ SqT K H1 a xs ∧ R (IteT K a) H1
theorem pi_enumT {X : Cx} {e : Expr} {ta : TA} {p pos tpos : Pos} {elts : List Expr} {kk : Nat} (hg : Gl X "enumerate") (hm : X.mg "enumerate" = none) (ha : PA X [e] ta)
    (hs : starEach [e] X.env = [(false, eval e X.env)] := by rfl) : PI X (.Tuple elts kk tpos) (.Call (.Name "enumerate" p) [e] [] pos) (iEnumT X.K ta) := by
  constructor
  intro pins s σ H R I h
  refine Call_ (ld_blt I hg hm boot_enumerate (PyProof.Rows.callWith_type1 (thn (ha.run pos pins s σ H _ I h) fun us s1 ⟨vs, H1, I1, r1, q1⟩ => ?_) hs rfl))
  obtain ⟨a, xs, ex, hq, q⟩ := q1
  subst ex
  cases r1 with
  | cons r rr =>
    cases rr
    cases r
    obtain ⟨its, rv, p1, hz⟩ := I1.tuple hq
    have al : a < s1.heap.objs.size := by obtain ⟨o, ho, _⟩ := p1; exact Heap.lt_size ho
    refine enum1 (begins_tuple a its.toArray) (show s1.heap.IsTuple a its.toArray from p1) fun h' he hit hk => wpAny_pyIter_enum he ?_
    have I2 : Inv X pins σ H1 { s1 with heap := h' } := I1.kept (t' := s1.toks) hk
    refine ⟨s1.heap.objs.size + 1, [s1.heap.objs.size + 1, s1.heap.objs.size], _, _, H1, rfl, I2, turn_enumT a (s1.heap.objs.size + 1) s1.heap.objs.size,
      ⟨⟨.none, he⟩, ⟨_, hit, rfl, rfl⟩, Nat.succ_ne_self _, Nat.ne_of_lt (Nat.lt_succ_of_lt al), Nat.ne_of_lt al⟩, fun b hb => ?_, q⟩
    have hle : s1.heap.objs.size ≤ b := by
      rcases List.mem_cons.mp hb with z | z
      · rw [z]; exact Nat.le_add_right _ _
      · rw [List.mem_singleton.mp z]; exact Nat.le_refl _
    exact I1.fpOk hle (I1.hok.fresh hle)
theorem walk_enumT {K : PySem.W.Frag} {a : Addr} {xs : List V} : Walk (IteT K a) xs.length (fun H => SqT K H a xs) (YPair (fun i => some (.int (i : Nat))) (fun i => xs[i]?)) where
  goes := fun i _ hi q => ⟨xs, xs[i], q, by simp [hi]⟩
  stops := fun _ q => ⟨xs, q, Nat.le_refl _⟩
  yields := fun i H v H' _ q y => by
    obtain ⟨T, x, h1, h2, h3, h4⟩ := y
    exact ⟨T, .int (i : Nat), x, h1, h2, h3, rfl, h4 xs q⟩
end Vf

/-! Part D: the dice, a list that changes beside the data. -/
namespace Vf
open PySem PySem.Spec PyProof.Rows L2

/-- a def of the text as the top has left it -/
structure DefAt (K : PySem.W.Frag) (mg : Str → Option Value) (x : Str) (st : Stmt) (ps : List Str) (f : Addr) (fd : FuncData) : Prop where
  F : Fun K x x st f fd
  b : Binds K fd ps []
  g : mg x = some (.ref f)

/-- the heap without what stands at S -/
def hide (H : Hp) (S : List Addr) : Hp := fun b => if b ∈ S then none else H b
theorem hide_ne {H : Hp} {S : List Addr} {b : Addr} (h : b ∉ S) : hide H S b = H b := if_neg h
theorem hide_of {H : Hp} {S : List Addr} {b : Addr} {o : HO} (e : hide H S b = some o) : b ∉ S ∧ H b = some o := by
  unfold hide at e
  split at e
  · cases e
  · exact ⟨‹_›, e⟩
theorem hide_le {H : Hp} {S : List Addr} : Ext (hide H S) H := fun _ _ e => (hide_of e).2
theorem hide_sub {H : Hp} {S S2 : List Addr} (h : ∀ x ∈ S, x ∈ S2) : Ext (hide H S2) (hide H S) := fun b o e => by
  obtain ⟨n, e⟩ := hide_of e
  rw [hide_ne fun z => n (h b z)]
  exact e
theorem hide_upd {H : Hp} {S : List Addr} {p : Addr} {o : HO} (h : p ∈ S) : hide (upd H p o) S = hide H S := by
  funext b
  unfold hide
  split
  · rfl
  · have nb : b ≠ p := fun e => ‹b ∉ S› (by rw [e]; exact h)
    rw [upd_ne nb]
/-- the dice stand at D -/
def Dc (H : Hp) (D : Addr) : Prop := ∃ x y z : Int, H D = some (.lst [.int x, .int y, .int z])
/-- from H to H2: the dice may have been rolled, what else stood stands -/
structure Ge (D : Addr) (H H2 : Hp) : Prop where
  kp : ∀ b o, b ≠ D → H b = some o → H2 b = some o
  dc : Dc H2 D
/-- what stands at S is left out of account: the dice among it, all of it tracked -/
structure Hid (H : Hp) (D : Addr) (S : List Addr) : Prop where
  mem : D ∈ S
  tr : ∀ x ∈ S, H x ≠ none
theorem Ext.rfl' {H : Hp} : Ext H H := fun _ _ e => e
theorem Ext.tr {H H1 H2 : Hp} (a : Ext H H1) (b : Ext H1 H2) : Ext H H2 := fun c o e => b c o (a c o e)
theorem Ext.nw {H : Hp} {p : Addr} {o : HO} (h : H p = none) : Ext H (upd H p o) := fun b u e => by
  rw [upd_ne (ne_of_none e h)]
  exact e
theorem Ext.no {H H1 : Hp} {p : Addr} (a : Ext H H1) (h : H1 p = none) : H p = none := by
  cases e : H p with
  | none => rfl
  | some o =>
    rw [a p o e] at h
    cases h
theorem Ext.dc {H H1 : Hp} {D : Addr} (a : Ext H H1) (d : Dc H D) : Dc H1 D := let ⟨x, y, z, e⟩ := d; ⟨x, y, z, a _ _ e⟩
theorem Ext.hd {H H1 : Hp} {S : List Addr} (a : Ext H H1) : Ext (hide H S) (hide H1 S) := fun b o e => by
  obtain ⟨n, e⟩ := hide_of e
  rw [hide_ne n]
  exact a b o e
/-- a list that H does not know may change -/
theorem Ext.mut {H H1 : Hp} {p : Addr} {o : HO} (a : Ext H H1) (h : H p = none) : Ext H (upd H1 p o) := fun b u e => by
  rw [upd_ne (ne_of_none e h)]
  exact a b u e
theorem Ge.of {H H1 : Hp} {D : Addr} (a : Ext H H1) (d : Dc H D) : Ge D H H1 := ⟨fun b o _ e => a b o e, a.dc d⟩
theorem Ge.rfl' {H : Hp} {D : Addr} (d : Dc H D) : Ge D H H := ⟨fun _ _ _ e => e, d⟩
theorem Ge.tr {H H1 H2 : Hp} {D : Addr} (a : Ge D H H1) (b : Ge D H1 H2) : Ge D H H2 := ⟨fun c o n e => b.kp c o n (a.kp c o n e), b.dc⟩
theorem Ge.nw {H H1 : Hp} {D p : Addr} {o : HO} (a : Ge D H H1) (h : H1 p = none) : Ge D H (upd H1 p o) := a.tr (Ge.of (Ext.nw h) a.dc)
theorem Ge.more {H H1 H2 : Hp} {D : Addr} (a : Ge D H H1) (b : Ext H1 H2) : Ge D H H2 := a.tr (Ge.of b a.dc)
theorem Dc.ne {H : Hp} {D p : Addr} (d : Dc H D) (h : H p = none) : p ≠ D := fun e => by
  obtain ⟨x, y, z, q⟩ := d
  rw [e, q] at h
  cases h
theorem Dc.some {H : Hp} {D : Addr} (d : Dc H D) : H D ≠ none := fun e => d.ne e rfl
theorem Ge.some {H H1 : Hp} {D p : Addr} (a : Ge D H H1) (h : H p ≠ none) : H1 p ≠ none := fun e => by
  cases q : H p with
  | none => exact h q
  | some o =>
    rw [a.kp p o (a.dc.ne e) q] at e
    cases e
theorem Ge.fresh {H H1 : Hp} {D p : Addr} (a : Ge D H H1) (h : H1 p = none) : H p = none := by
  cases e : H p with
  | none => rfl
  | some o => exact absurd h (a.some (by rw [e]; exact fun z => nomatch z))
theorem Ge.atL {K : PySem.W.Frag} {H H1 : Hp} {D b : Addr} {xs : List V} (a : Ge D H H1) (n : b ≠ D) (h : SqL K H b xs) : SqL K H1 b xs := by
  rcases h with (h | ⟨o, h⟩) | h
  · exact .inl (.inl (a.kp _ _ n h))
  · exact .inl (.inr ⟨o, a.kp _ _ n h⟩)
  · exact .inr h
theorem Hid.one {H : Hp} {D : Addr} (d : Dc H D) : Hid H D [D] := ⟨List.mem_cons_self, fun x hx => by
  rw [List.mem_singleton.mp hx]
  exact d.some⟩
theorem Hid.ge {H H1 : Hp} {D : Addr} {S : List Addr} (h : Hid H D S) (g : Ge D H H1) : Hid H1 D S := ⟨h.mem, fun x hx => g.some (h.tr x hx)⟩
theorem Hid.ext {H H1 : Hp} {D : Addr} {S : List Addr} (h : Hid H D S) (g : Ext H H1) : Hid H1 D S := ⟨h.mem, fun x hx e => by
  cases q : H x with
  | none => exact h.tr x hx q
  | some o =>
    rw [g x o q] at e
    cases e⟩
theorem Hid.nw {H : Hp} {D p : Addr} {S : List Addr} (h : Hid H D S) (n : H p = none) : p ∉ S := fun z => h.tr p z n
theorem Hid.more {H : Hp} {D p : Addr} {S : List Addr} (h : Hid H D S) (n : H p ≠ none) : Hid H D (p :: S) := ⟨List.mem_cons_of_mem _ h.mem, fun x hx => by
  rcases List.mem_cons.mp hx with e | e
  · rw [e]
    exact n
  · exact h.tr x e⟩
theorem Ge.hd {H H1 : Hp} {D : Addr} {S : List Addr} (a : Ge D H H1) (h : D ∈ S) : Ext (hide H S) (hide H1 S) := fun b o e => by
  obtain ⟨n, e⟩ := hide_of e
  rw [hide_ne n]
  exact a.kp b o (fun z => n (z ▸ h)) e
theorem Ge.q {H H1 : Hp} {D : Addr} {S : List Addr} {v : V} {d : PyData} (a : Ge D H H1) (h : D ∈ S) (q : Dq (hide H S) v d) : Dq (hide H1 S) v d := q.ext (a.hd h)
theorem Dq.up {H : Hp} {S : List Addr} {v : V} {d : PyData} (h : Dq (hide H S) v d) : Dq H v d := h.ext hide_le
theorem DqAll.up {H : Hp} {S : List Addr} {v : List V} {d : List PyData} (h : DqAll (hide H S) v d) : DqAll H v d := h.ext hide_le
/-- a new thing, seen where S is left out -/
theorem hide_new {H : Hp} {D p : Addr} {S : List Addr} {o : HO} (h : Hid H D S) (n : H p = none) : hide (upd H p o) S p = some o := by
  rw [hide_ne (h.nw n), upd_same]
/-- rolled: the list at D is another one -/
theorem Ge.roll {H H1 : Hp} {D : Addr} {x y z : Int} (a : Ge D H H1) : Ge D H (upd H1 D (.lst [.int x, .int y, .int z])) :=
  ⟨fun b o n e => by rw [upd_ne n]; exact a.kp b o n e, x, y, z, upd_same⟩

theorem vmem {xs : List V} {i : Int} (h0 : 0 ≤ i) (h1 : i < xs.length) : ∃ v, v ∈ xs ∧ atI xs i = some v := by
  obtain ⟨j, rfl⟩ := Int.eq_ofNat_of_zero_le h0
  have h2 : j < xs.length := by omega
  exact ⟨xs[j], List.getElem_mem h2, atI_nat (List.getElem?_eq_getElem h2)⟩
theorem lt_line {n : Nat} (h : n ≤ 100000) : n < sizeLine := Nat.lt_of_le_of_lt h (by decide)
theorem le_line {n : Nat} (h : n ≤ 100000) : n ≤ sizeLine := Nat.le_of_lt (lt_line h)

/-! ### the promises of the dice -/
def spDice (K : PySem.W.Frag) : Sp := fun vs H Q _ => ∃ (l : Addr) (ns : List Int) (i : Nat), vs = [.ref l, .int (i : Int)] ∧ SqL K H l (ns.map V.int) ∧ i < 1000 ∧
  ∀ (D : Addr) (H2 : Hp), H D = none → Ext H H2 → Dc H2 D → Q (.ref D) H2
def spRoll : Sp := fun vs H Q _ => ∃ (D : Addr) (m : Int), vs = [.ref D, .int m] ∧ Dc H D ∧ 0 < m ∧ m.natAbs < 2 ^ 8000 ∧
  ∀ (r : Int) (H2 : Hp), 0 ≤ r → r < m → Ge D H H2 → Q (.int r) H2
def spPick : Sp := fun vs H Q _ => ∃ (D l : Addr) (xs : List V), vs = [.ref D, .ref l] ∧ Dc H D ∧ H l = some (.lst xs) ∧ l ≠ D ∧ xs ≠ [] ∧ xs.length ≤ 100000 ∧
  ∀ (v : V) (H2 : Hp), v ∈ xs → Ge D H H2 → Q v H2
/-- rolls of the dice at D come to a whole number -/
def spGenI (P : Int → Prop) : Sp := fun vs H Q _ => ∃ D : Addr, vs = [.ref D] ∧ Dc H D ∧ ∀ (i : Int) (H2 : Hp), P i → Ge D H H2 → Q (.int i) H2
/-- rolls of the dice at D come to data, S left out of account -/
def spGen (P : PyData → Prop) : Sp := fun vs H Q _ => ∃ (D : Addr) (S : List Addr), vs = [.ref D] ∧ Dc H D ∧ Hid H D S ∧
  ∀ (v : V) (d : PyData) (H2 : Hp), P d → Ge D H H2 → Dq (hide H2 S) v d → Q v H2
/-- a test of data that leaves the heap as it is, or makes new things alone -/
def spP0 (f : PyData → Bool) : Sp := fun vs H Q _ => ∃ (v : V) (d : PyData), vs = [v] ∧ Dq H v d ∧ Q (.bl (f d)) H
def spP (W : PyData → Prop) (f : PyData → Bool) : Sp := fun vs H Q _ => ∃ (v : V) (d : PyData), vs = [v] ∧ Dq H v d ∧ W d ∧ ∀ H2 : Hp, Ext H H2 → Q (.bl (f d)) H2
def spLaw (K : PySem.W.Frag) : Sp := fun vs H Q _ => ∃ (a : Addr) (ns : List Int), vs = [.ref a] ∧ SqL K H a (ns.map V.int) ∧ ns.length ≤ 63 ∧ ∀ H2, Q (.bl true) H2
/-- the dice's cell comes to true -/
def spTrue : Sp := fun vs H Q _ => ∃ D : Addr, vs = [.ref D] ∧ Dc H D ∧ ∀ H2 : Hp, Ge D H H2 → Q (.bl true) H2
end Vf

/-! Part F: comprehensions. -/
namespace Vf
open PySem PySem.Spec PyProof.Rows L2

section
variable {K : PySem.W.Frag} {σ : L2.St} {H : Hp} {te : TE} {tt : TT} {vs : List Nat} {i : Nat} {Q : VK} {a : Addr}
/-- over a tuple of data, a test of each: the list of the answers -/
theorem lcT_map {xs : List V} {ds : List PyData} {j : Nat} (f : PyData → V) (h0 : σ[j]? = some (some (.ref a))) (h1 : H a = some (.tup xs)) (h2 : DqAll H xs ds) (hz : xs.length ≤ 100000)
    (hw : ∀ v : V, wipe ((wipe σ vs).set i (some v)) vs = wipe σ vs)
    (he : ∀ (v : V) (d : PyData) (H2 : Hp) (R : VK), Ext H H2 → Dq H2 v d → (∀ H3, Ext H2 H3 → R (f d) H3) → te ((wipe σ vs).set i (some v)) H2 R)
    (k : ∀ (D : Addr) (H2 : Hp), H D = none → Ext H H2 → H2 D = some (.lst (ds.map f)) → Q (.ref D) H2) :
    tLc (iTup K (tVar j)) (gName i) tYes te vs σ H Q := by
  refine ⟨_, h0, a, rfl, ⟨_, SqT.of h1⟩, fun D hD => ?_⟩
  refine lc_it (walk_tup (K := K) (a := a) (xs := xs)) (fun n H2 => Ext H H2 ∧ H2 D = some (.lst ((ds.take n).map f))) ⟨Ext.nw hD, upd_same⟩ (fun n H2 _ p => SqT.of (p.1 _ _ h1)) (fun n x H2 H3 hn p y => ?_) (fun H2 p => ?_)
  · obtain ⟨rfl, hx⟩ := y
    obtain ⟨d, hd, q⟩ := h2.at hx
    refine ⟨hw x, ?_⟩
    unfold tYes
    dsimp only
    rw [if_pos (rfl : true = true)]
    refine (he x d H3 _ p.1 (q.ext p.1) fun H4 e4 => ⟨_, e4 _ _ p.2, ?_, ?_, ?_⟩)
    · rw [List.length_map, List.length_take]
      have := h2.len
      exact lt_line (by omega)
    · exact fun b o e => by
        rw [upd_ne (ne_of_none e hD)]
        exact e4 _ _ (p.1 _ _ e)
    · rw [upd_same, List.take_add_one, hd, List.map_append]
      rfl
  · rw [h2.len, List.take_length] at p
    exact k D H2 hD p.1 p.2
/-- over a tuple of data, those that do not pass: is there one -/
theorem lcT_filter {xs : List V} {ds : List PyData} {j : Nat} (hi : i < (wipe σ vs).length) (f : PyData → Bool) (h0 : σ[j]? = some (some (.ref a))) (h1 : H a = some (.tup xs)) (h2 : DqAll H xs ds) (hz : xs.length ≤ 100000)
    (hw : ∀ v : V, wipe ((wipe σ vs).set i (some v)) vs = wipe σ vs)
    (ht : ∀ (v : V) (d : PyData) (H2 : Hp) (R : Bool → Hp → Prop), Ext H H2 → Dq H2 v d → (∀ H3, Ext H2 H3 → R (!f d) H3) → tt ((wipe σ vs).set i (some v)) H2 R)
    (k : ∀ (D : Addr) (H2 : Hp) (acc : List V), H D = none → Ext H H2 → H2 D = some (.lst acc) → acc.isEmpty = ds.all f → Q (.ref D) H2) :
    tLc (iTup K (tVar j)) (gName i) tt (tVar i) vs σ H Q := by
  refine ⟨_, h0, a, rfl, ⟨_, SqT.of h1⟩, fun D hD => ?_⟩
  refine lc_it (walk_tup (K := K) (a := a) (xs := xs)) (fun n H2 => Ext H H2 ∧ ∃ acc : List V, H2 D = some (.lst acc) ∧ acc.length ≤ n ∧ acc.isEmpty = (ds.take n).all f) ⟨Ext.nw hD, [], upd_same, Nat.le_refl _, rfl⟩
    (fun n H2 _ p => SqT.of (p.1 _ _ h1)) (fun n x H2 H3 hn p y => ?_) (fun H2 p => ?_)
  · obtain ⟨rfl, hx⟩ := y
    obtain ⟨d, hd, q⟩ := h2.at hx
    obtain ⟨e0, acc, hacc, hl, hb⟩ := p
    have tk : (ds.take (n + 1)).all f = ((ds.take n).all f && f d) := by
      rw [List.take_add_one, hd, List.all_append]
      simp
    refine ⟨hw x, ?_⟩
    refine ht x d H3 _ e0 (q.ext e0) fun H4 e4 => ?_
    cases hf : f d with
    | true =>
      refine iteF ⟨e0.tr e4, acc, e4 _ _ hacc, Nat.le_succ_of_le hl, ?_⟩
      rw [tk, hf, Bool.and_true]
      exact hb
    | false =>
      refine iteT ⟨x, by rw [List.getElem?_set_self hi], acc, e4 _ _ hacc, lt_line (by omega), ?_, _, upd_same, by rw [List.length_append]; exact Nat.succ_le_succ hl, ?_⟩
      · exact fun b o e => by
          rw [upd_ne (ne_of_none e hD)]
          exact e4 _ _ (e0 _ _ e)
      · rw [tk, hf, Bool.and_false]
        cases acc <;> rfl
  · obtain ⟨e0, acc, hacc, hl, hb⟩ := p
    rw [h2.len, List.take_length] at hb
    exact k D H2 acc hD e0 hacc hb
end
section
variable {K : PySem.W.Frag} {σ : L2.St} {H : Hp} {te : TE} {tt : TT} {ta : TA} {vs : List Nat} {i : Nat} {Q : VK} {D : Addr} {S : List Addr}
/-- [e for k in range(n)], n and e by rolls of the dice at D -/
theorem lcR_gen (Cn : Int → Prop) (Pm : Hp → V → Prop) (mono : ∀ (A B : Hp) (v : V), Ext A B → Pm A v → Pm B v) (hS : Hid H D S)
    (hta : ∀ R : List V → Hp → Prop, (∀ (n : Int) (H2 : Hp), 0 ≤ n → n ≤ 100000 → Cn n → Ge D H H2 → R [.int n] H2) → ta σ H R)
    (hw : ∀ v : V, wipe ((wipe σ vs).set i (some v)) vs = wipe σ vs)
    (he : ∀ (v : V) (S2 : List Addr) (H2 : Hp) (R : VK), Ge D H H2 → Hid H2 D S2 → (∀ (x : V) (H3 : Hp), Ge D H2 H3 → Pm (hide H3 S2) x → R x H3) → te ((wipe σ vs).set i (some v)) H2 R)
    (k : ∀ (n : Int) (L : Addr) (H2 : Hp) (xs : List V), H L = none → L ≠ D → Cn n → Ge D H H2 → H2 L = some (.lst xs) → (xs.length : Int) = n → (∀ x ∈ xs, Pm (hide H2 S) x) → Q (.ref L) H2) :
    tLc (iRng1 ta) (gName i) tYes te vs σ H Q := by
  refine hta _ fun n H1 n0 n1 cn g1 => ⟨n, rfl, by omega, by omega, fun L hL => ?_⟩
  have nL := g1.dc.ne hL
  refine lc_it (walk_range (lo := 0) (n := n.toNat)) (fun j H2 => Ge D H H2 ∧ ∃ xs : List V, H2 L = some (.lst xs) ∧ xs.length = j ∧ ∀ x ∈ xs, Pm (hide H2 (L :: S)) x)
    ⟨g1.nw hL, [], upd_same, rfl, fun x hx => nomatch hx⟩ (fun _ _ _ _ => trivial) (fun j x H2 H3 hn p y => ?_) (fun H2 p => ?_)
  · obtain ⟨rfl, rfl⟩ := y
    obtain ⟨g2, xs, hxs, hl, hp⟩ := p
    refine ⟨hw _, ?_⟩
    unfold tYes
    dsimp only
    rw [if_pos (rfl : true = true)]
    have hS3 : Hid H3 D (L :: S) := (hS.ge g2).more (by rw [hxs]; exact fun z => nomatch z)
    refine he _ (L :: S) H3 _ g2 hS3 fun z H4 g4 hz => ⟨xs, g4.kp _ _ nL hxs, lt_line (by omega), ?_, _, upd_same, by rw [List.length_append, hl]; rfl, fun x hx => ?_⟩
    · refine ⟨fun b o nb e => ?_, ?_⟩
      · have nbL : b ≠ L := fun q => by
          rw [q, g1.fresh hL] at e
          cases e
        rw [upd_ne nbL]
        exact (g2.tr g4).kp b o nb e
      · obtain ⟨a1, a2, a3, e⟩ := g4.dc
        exact ⟨a1, a2, a3, by rw [upd_ne nL.symm]; exact e⟩
    · rw [hide_upd List.mem_cons_self]
      rcases List.mem_append.mp hx with hx | hx
      · exact mono _ _ _ (g4.hd hS3.mem) (hp x hx)
      · rw [List.mem_singleton.mp hx]
        exact hz
  · obtain ⟨g2, xs, hxs, hl, hp⟩ := p
    exact k n L H2 xs (g1.fresh hL) nL cn g2 hxs (by omega) fun x hx => mono _ _ _ (hide_sub fun y hy => List.mem_cons_of_mem _ hy) (hp x hx)
/-- over the signs of a text, a test of each -/
theorem lcS_map {z : Str} {j : Nat} (f : Nat → Bool) (h0 : σ[j]? = some (some (.str z))) (hz : z.length ≤ 100000)
    (hw : ∀ v : V, wipe ((wipe σ vs).set i (some v)) vs = wipe σ vs)
    (he : ∀ (c : Nat) (H2 : Hp) (R : VK), Ext H H2 → R (.bl (f c)) H2 → te ((wipe σ vs).set i (some (.str ⟨#[c]⟩))) H2 R)
    (k : ∀ (L : Addr) (H2 : Hp), Ext H H2 → H2 L = some (.lst ((z.cps.toList.map f).map V.bl)) → Q (.ref L) H2) :
    tLc (iStr (tVar j)) (gName i) tYes te vs σ H Q := by
  refine ⟨_, h0, z, rfl, fun L hL => ?_⟩
  have ez : z.cps.size = z.cps.toList.length := by simp
  refine lc_it (walk_str (z := z)) (fun n H2 => Ext H H2 ∧ H2 L = some (.lst (((z.cps.toList.take n).map f).map V.bl))) ⟨Ext.nw hL, upd_same⟩ (fun _ _ _ _ => trivial) (fun n x H2 H3 hn p y => ?_) (fun H2 p => ?_)
  · obtain ⟨rfl, c, hc, rfl⟩ := y
    have hc2 : z.cps.toList[n]? = some c := by simpa using hc
    refine ⟨hw _, ?_⟩
    unfold tYes
    dsimp only
    rw [if_pos (rfl : true = true)]
    refine he c H3 _ p.1 ⟨_, p.2, ?_, p.1.mut hL, ?_⟩
    · rw [List.length_map, List.length_map, List.length_take]
      have : z.cps.size ≤ 100000 := hz
      exact lt_line (by omega)
    · rw [upd_same, List.take_add_one, hc2, List.map_append, List.map_append]
      rfl
  · rw [ez, List.take_length] at p
    exact k L H2 p.1 p.2
/-- over the signs of a text, those that do not pass: is there one -/
theorem lcS_filter {z : Str} {j : Nat} (hi : i < (wipe σ vs).length) (f : Nat → Bool) (h0 : σ[j]? = some (some (.str z))) (hz : z.length ≤ 100000)
    (hw : ∀ v : V, wipe ((wipe σ vs).set i (some v)) vs = wipe σ vs)
    (ht : ∀ (c : Nat) (H2 : Hp) (R : Bool → Hp → Prop), Ext H H2 → R (!f c) H2 → tt ((wipe σ vs).set i (some (.str ⟨#[c]⟩))) H2 R)
    (k : ∀ (L : Addr) (H2 : Hp) (acc : List V), Ext H H2 → H2 L = some (.lst acc) → acc.isEmpty = z.cps.toList.all f → Q (.ref L) H2) :
    tLc (iStr (tVar j)) (gName i) tt (tVar i) vs σ H Q := by
  refine ⟨_, h0, z, rfl, fun L hL => ?_⟩
  have ez : z.cps.size = z.cps.toList.length := by simp
  refine lc_it (walk_str (z := z)) (fun n H2 => Ext H H2 ∧ ∃ acc : List V, H2 L = some (.lst acc) ∧ acc.length ≤ n ∧ acc.isEmpty = (z.cps.toList.take n).all f) ⟨Ext.nw hL, [], upd_same, Nat.le_refl _, rfl⟩
    (fun _ _ _ _ => trivial) (fun n x H2 H3 hn p y => ?_) (fun H2 p => ?_)
  · obtain ⟨rfl, c, hc, rfl⟩ := y
    have hc2 : z.cps.toList[n]? = some c := by simpa using hc
    obtain ⟨e0, acc, hacc, hl, hb⟩ := p
    have tk : (z.cps.toList.take (n + 1)).all f = ((z.cps.toList.take n).all f && f c) := by
      rw [List.take_add_one, hc2, List.all_append]
      simp
    refine ⟨hw _, ht c H3 _ e0 ?_⟩
    cases hf : f c with
    | true =>
      refine iteF ⟨e0, acc, hacc, Nat.le_succ_of_le hl, ?_⟩
      rw [tk, hf, Bool.and_true]
      exact hb
    | false =>
      have : z.cps.size ≤ 100000 := hz
      refine iteT ⟨_, by rw [List.getElem?_set_self hi], acc, hacc, lt_line (by omega), e0.mut hL, _, upd_same, by rw [List.length_append]; exact Nat.succ_le_succ hl, ?_⟩
      rw [tk, hf, Bool.and_false]
      cases acc <;> rfl
  · obtain ⟨e0, acc, hacc, hl, hb⟩ := p
    rw [ez, List.take_length] at hb
    exact k L H2 acc e0 hacc hb
end
end Vf

/-! Part G: what evaluates to data. -/
namespace Vf
open PySem PySem.Spec PyProof.Rows L2

/-- te comes to the data d, making new things alone -/
def EvD (te : TE) (σ : L2.St) (H : Hp) (d : PyData) : Prop := ∀ H1, Ext H H1 → ∀ Q : VK, (∀ (v : V) (H2 : Hp), Ext H1 H2 → Dq H2 v d → Q v H2) → te σ H1 Q
def EvDA (ta : TA) (σ : L2.St) (H : Hp) (ds : List PyData) : Prop := ∀ H1, Ext H H1 → ∀ Q : List V → Hp → Prop, (∀ (vs : List V) (H2 : Hp), Ext H1 H2 → DqAll H2 vs ds → Q vs H2) → ta σ H1 Q
section
variable {K : PySem.W.Frag} {σ : L2.St} {H : Hp} {ta tb te tl : TE} {tr : TA} {d : PyData} {ds as bs : List PyData} {v : V} {Q : VK} {vs : List Nat} {i j : Nat}
theorem evd_c (h : ∀ H, Dq H v d) : EvD (tC v) σ H d := fun H1 _ Q q => q v H1 Ext.rfl' (h H1)
theorem evd_int {n : Int} : EvD (tC (.int n)) σ H (.int n) := evd_c fun _ => .int n
theorem evd_bl {b : Bool} : EvD (tC (.bl b)) σ H (.bool b) := evd_c fun _ => .bl b
theorem evd_non : EvD (tC .non) σ H .none := evd_c fun _ => .non
theorem evd_str {z : Str} : EvD (tC (.str z)) σ H (.str z) := evd_c fun _ => .str z
theorem evd_var (h0 : σ[j]? = some (some v)) (h : Dq H v d) : EvD (tVar j) σ H d := fun H1 e Q q => ⟨v, h0, q v H1 Ext.rfl' (h.ext e)⟩
theorem evda_nil : EvDA tNil σ H [] := fun H1 _ Q q => q [] H1 Ext.rfl' .nil
theorem evda_cons (h : EvD te σ H d) (r : EvDA tr σ H ds) : EvDA (tCons te tr) σ H (d :: ds) := fun H1 e Q q =>
  h H1 e _ fun x H2 e2 dx => r H2 (e.tr e2) _ fun xs H3 e3 dxs => q (x :: xs) H3 (e2.tr e3) (.cons (dx.ext e3) dxs)
theorem evd_tup (h : EvDA tr σ H ds) (hl : ds.length ≤ 1000) : EvD (tTup tr) σ H (.tuple ds) := fun H1 e Q q =>
  h H1 e _ fun xs H2 e2 dx => ⟨le_line (by rw [dx.len]; omega), fun p hp => q (.ref p) _ (e2.tr (Ext.nw hp)) (.tup upd_same (dx.ext (Ext.nw hp)))⟩
theorem evd_lst (h : EvDA tr σ H ds) (hl : ds.length ≤ 1000) : EvD (tLst tr) σ H (.list ds) := fun H1 e Q q =>
  h H1 e _ fun xs H2 e2 dx => ⟨le_line (by rw [dx.len]; omega), fun p hp => q (.ref p) _ (e2.tr (Ext.nw hp)) (.lst upd_same (dx.ext (Ext.nw hp)))⟩
theorem evd_cat (ha : EvD ta σ H (.list as)) (hb : EvD tb σ H (.list bs)) (hl : as.length + bs.length ≤ 1000) : EvD (tOp rCat ta tb) σ H (.list (as ++ bs)) := fun H1 e Q q =>
  ha H1 e _ fun x H2 e2 dx => hb H2 (e.tr e2) _ fun y H3 e3 dy => by
    have dx := dx.ext e3
    cases dx with
    | lst h1 r1 =>
      cases dy with
      | lst h2 r2 =>
        exact ⟨_, _, _, _, rfl, rfl, h1, h2, le_line (by rw [r1.len, r2.len]; omega), fun p hp => q (.ref p) _ ((e2.tr e3).tr (Ext.nw hp)) (.lst upd_same ((r1.app r2).ext (Ext.nw hp)))⟩
theorem evd_int2 {C : Int → Int → Prop} {g : Int → Int → V} {a b c : Int} (ha : EvD ta σ H (.int a)) (hb : EvD tb σ H (.int b)) (hc : C a b) (e : g a b = .int c) : EvD (tOp (rI C g) ta tb) σ H (.int c) := fun H1 x Q q =>
  ha H1 x _ fun u H2 e2 du => hb H2 (x.tr e2) _ fun w H3 e3 dw => by
    cases du
    cases dw
    exact ⟨a, b, rfl, rfl, hc, by rw [e]; exact q _ H3 (e2.tr e3) (.int c)⟩
theorem evd_int0 {g : Int → Int → V} {a b c : Int} (ha : EvD ta σ H (.int a)) (hb : EvD tb σ H (.int b)) (e : g a b = .int c) : EvD (tOp (rI0 g) ta tb) σ H (.int c) := fun H1 x Q q =>
  ha H1 x _ fun u H2 e2 du => hb H2 (x.tr e2) _ fun w H3 e3 dw => by
    cases du
    cases dw
    exact ⟨a, b, rfl, rfl, by rw [e]; exact q _ H3 (e2.tr e3) (.int c)⟩
theorem dqall_rep {H : Hp} {xs : List V} (h : DqAll H xs ds) : ∀ n : Nat, DqAll H (List.replicate n xs).flatten (List.replicate n ds).flatten
  | 0 => .nil
  | n + 1 => by
    rw [List.replicate_succ, List.replicate_succ, List.flatten_cons, List.flatten_cons]
    exact h.app (dqall_rep h n)
theorem evd_rep {n : Int} (ha : EvD ta σ H (.tuple ds)) (h0 : ds ≠ []) (h1 : ds.length ≤ 1000) (h2 : 2 ≤ n) (h3 : n ≤ 1000) : EvD (tOp (rRepT K) ta (tC (.int n))) σ H (.tuple (List.replicate n.toNat ds).flatten) := fun H1 e Q q =>
  ha H1 e _ fun x H2 e2 dx => by
    cases dx with
    | tup g1 r1 =>
      refine ⟨_, n, _, rfl, rfl, SqT.of g1, fun z => h0 ?_, h2, h3, by rw [r1.len]; exact h1, fun p hp => q (.ref p) _ (e2.tr (Ext.nw hp)) (.tup upd_same ((dqall_rep r1 _).ext (Ext.nw hp)))⟩
      have := r1.len
      rw [z] at this
      exact List.length_eq_zero_iff.mp this.symm
mutual
theorem dq_dp {H : Hp} : ∀ {v : V} {d : PyData}, Dq H v d → d.hasDict = false → Dp K H v d
  | _, _, .non, _ => .non
  | _, _, .bl b, _ => .bl b
  | _, _, .int i, _ => .int i
  | _, _, .str x, _ => .str x
  | _, _, .lst h r, e => .lst (SqL.of h) (dqa_dpa r (by simpa [PyData.hasDict] using e))
  | _, _, .tup h r, e => .tup (SqT.of h) (dqa_dpa r (by simpa [PyData.hasDict] using e))
  | _, _, .dct h k r, e => by simp [PyData.hasDict] at e
theorem dqa_dpa {H : Hp} : ∀ {vs : List V} {ds : List PyData}, DqAll H vs ds → PyData.hasDictAll ds = false → DpAll K H vs ds
  | _, _, .nil, _ => .nil
  | _, _, .cons h r, e => by
    simp only [PyData.hasDictAll, Bool.or_eq_false_iff] at e
    exact .cons (dq_dp h e.1) (dqa_dpa r e.2)
end
/-- over a list of data, each comes to a flat value -/
theorem lcL_map (f : PyData → V) (htl : EvD tl σ H (.list ds)) (hz : ds.length ≤ 100000) (hw : ∀ v : V, wipe ((wipe σ vs).set i (some v)) vs = wipe σ vs)
    (he : ∀ (v : V) (d : PyData) (H2 : Hp) (R : VK), Ext H H2 → d ∈ ds → Dq H2 v d → (∀ H3, Ext H2 H3 → R (f d) H3) → te ((wipe σ vs).set i (some v)) H2 R)
    (k : ∀ (D : Addr) (H2 : Hp), Ext H H2 → H2 D = some (.lst (ds.map f)) → Q (.ref D) H2) :
    tLc (iList K tl) (gName i) tYes te vs σ H Q := by
  refine htl H Ext.rfl' _ fun v H1 e1 dv => ?_
  cases dv with
  | @lst a xs _ h1 h2 =>
    refine ⟨a, rfl, ⟨_, SqL.of h1⟩, fun D hD => ?_⟩
    refine lc_it (walk_list (K := K) (a := a) (xs := xs)) (fun n H2 => Ext H1 H2 ∧ H2 D = some (.lst ((ds.take n).map f))) ⟨Ext.nw hD, upd_same⟩ (fun n H2 _ p => SqL.of (p.1 _ _ h1)) (fun n x H2 H3 hn p y => ?_) (fun H2 p => ?_)
    · obtain ⟨rfl, hx⟩ := y
      obtain ⟨d, hd, q⟩ := h2.at hx
      refine ⟨hw x, ?_⟩
      unfold tYes
      dsimp only
      rw [if_pos (rfl : true = true)]
      refine he x d H3 _ (e1.tr p.1) (List.mem_of_getElem? hd) (q.ext p.1) fun H4 e4 => ⟨_, e4 _ _ p.2, ?_, (p.1.tr e4).mut hD, ?_⟩
      · rw [List.length_map, List.length_take]
        exact lt_line (by omega)
      · rw [upd_same, List.take_add_one, hd, List.map_append]
        rfl
    · rw [h2.len, List.take_length] at p
      exact k D H2 (e1.tr p.1) p.2
/-- over a list of data, each comes to data -/
theorem lcL_data (f : PyData → PyData) (htl : EvD tl σ H (.list ds)) (hz : ds.length ≤ 100000) (hw : ∀ v : V, wipe ((wipe σ vs).set i (some v)) vs = wipe σ vs)
    (he : ∀ (D : Addr) (v : V) (d : PyData) (H2 : Hp) (R : VK), Ext H H2 → H2 D ≠ none → d ∈ ds → Dq H2 v d → (∀ (y : V) (H3 : Hp), Ext H2 H3 → Dq (hide H3 [D]) y (f d) → R y H3) → te ((wipe σ vs).set i (some v)) H2 R)
    (k : ∀ (D : Addr) (H2 : Hp), Ext H H2 → Dq H2 (.ref D) (.list (ds.map f)) → Q (.ref D) H2) :
    tLc (iList K tl) (gName i) tYes te vs σ H Q := by
  refine htl H Ext.rfl' _ fun v H1 e1 dv => ?_
  cases dv with
  | @lst a xs _ h1 h2 =>
    refine ⟨a, rfl, ⟨_, SqL.of h1⟩, fun D hD => ?_⟩
    refine lc_it (walk_list (K := K) (a := a) (xs := xs)) (fun n H2 => Ext H1 H2 ∧ ∃ ys : List V, H2 D = some (.lst ys) ∧ DqAll (hide H2 [D]) ys ((ds.take n).map f)) ⟨Ext.nw hD, [], upd_same, .nil⟩ (fun n H2 _ p => SqL.of (p.1 _ _ h1)) (fun n x H2 H3 hn p y => ?_) (fun H2 p => ?_)
    · obtain ⟨rfl, hx⟩ := y
      obtain ⟨d, hd, q⟩ := h2.at hx
      obtain ⟨e2, ys, hy, dy⟩ := p
      refine ⟨hw x, ?_⟩
      unfold tYes
      dsimp only
      rw [if_pos (rfl : true = true)]
      refine he D x d H3 _ (e1.tr e2) (by rw [hy]; exact fun z => nomatch z) (List.mem_of_getElem? hd) (q.ext e2) fun z H4 e4 dz => ⟨ys, e4 _ _ hy, ?_, (e2.tr e4).mut hD, _, upd_same, ?_⟩
      · have := dy.len
        rw [List.length_map, List.length_take] at this
        exact lt_line (by omega)
      · rw [hide_upd List.mem_cons_self, List.take_add_one, hd, List.map_append]
        exact (dy.ext e4.hd).app (.cons dz .nil)
    · obtain ⟨e2, ys, hy, dy⟩ := p
      rw [h2.len, List.take_length] at dy
      exact k D H2 (e1.tr e2) (.lst hy dy.up)
end
end Vf

/-! VfX: own errors whose __init__ says super().__init__(text) and keeps one value; any built-in base that has BaseException's words (KeyError too, whose __new__ is LookupError's). -/
namespace Vf
open PySem PySem.Spec PySem.Calls PyProof.Rows PySem.W

/-- what a class's bases must hold, so that the word newId of B makes its objects -/
structure Bases (B newId : String) (bm : List Value) : Prop where
  own : bm.contains (.type B) = true
  noA : bm.contains (.type "AttributeError") = false
  noN : bm.contains (.type "NameError") = false
section
variable {M : Model} {prog : Program} {w : World} {A : Around} {E : Value → Shared → Prop} {R : Result → Shared → Prop} {h : Heap} {g : Array GenState} {d : Drawn} {t : Nat} {os : OsState}
variable {nm q : Str} {C N : Addr} {bs bm bmB : List Value} {hdct : Bool} {sn : List Str} {sub : List Value} {ab : Bool} {col : Option Bool} {dd : Option Addr} {k0 k1 k2 k3 k5 : Option Value} {B newId initId : String}
theorem eb_has (Y : Bases B newId bm) (C : Addr) : (Value.ref C :: bm).contains (.type B) = true := by rw [List.contains_cons, Y.own, Bool.or_true]
theorem eb_checked (F : ExcBaseFacts B newId initId bmB) (Y : Bases B newId bm) {us : List Value} {Q : Unit → Shared → Prop}
    (hC : h.get? C = some (excClassObj nm q C N bs bm hdct sn sub ab col dd k0 k1 k2 k3 k5 newId)) (z : Q () ⟨h, g, d, t, os⟩) : wpAny M A (checkBuiltinCall newId ⟨.ref C :: us, []⟩) Q E ⟨h, g, d, t, os⟩ := by
  have y := eb_has Y C
  have := F.noStar
  simp only [checkBuiltinCall, F.newKind, F.newSplit, F.newRow]
  repeat (first | refine wpAny_loadPart_at hC ?_ | (refine wpAny_isSubtype_exc hC ?_; rw [y]) | refine wpAny_staticBase_exc hC ?_ | refine wpAny_madeBy_exc hC ?_ | simp only [bne_self_eq_false, Bool.false_eq_true, if_false] | wp_step)
  exact z
/-- the new object, its arguments beside it -/
theorem eb_new (F : ExcBaseFacts B newId initId bmB) (Y : Bases B newId bm) {us : List Value} (hC : h.get? C = some (excClassObj nm q C N bs bm hdct sn sub ab col dd k0 k1 k2 k3 k5 newId)) (hl : us.length ≤ sizeLine)
    (z : R (.ok (.ret (.ref (h.objs.size + 1)))) ⟨(h.push (excTup us)).push (excObj C h.objs.size none .none), g, d, t, os⟩) : codeAny (model prog w) A (.builtin newId ⟨.ref C :: us, []⟩) R ⟨h, g, d, t, os⟩ := by
  have e1 := F.ends
  have y := eb_has Y C
  have yA : (Value.ref C :: bm).contains (.type "AttributeError") = false := by rw [List.contains_cons, Y.noA]; rfl
  have yN : (Value.ref C :: bm).contains (.type "NameError") = false := by rw [List.contains_cons, Y.noN]; rfl
  have hrest := hl
  refine codeAny_builtinAt F.entry ?_
  unfold Builtin.«BaseException.__new__»
  refine PySem.wpAt_bind ?_
  show PySem.wpAt _ _ _ (stack >>= _) _ _ _
  refine PySem.wpAt_bind (PySem.wpAt_stack fun p below => PySem.wpAt_of_wpAny ?_)
  wp_walk
  refine PySem.wpAt_of_wpAny ?_
  rw [F.owner]
  repeat (first | with_reducible refine wpAny_madeHere_exc F.canon hC ?_ | with_reducible refine wpAny_loadPart_at hC ?_ | (with_reducible refine wpAny_isSubtype_exc hC ?_; first | rw [y] | rw [yA] | rw [yN]) | wp_step)
  show R _ _
  rw [Heap.size_push]
  exact z
theorem eb_typeCall (F : ExcBaseFacts B newId initId bmB) (Y : Bases B newId bm) {us : List Value} {fI : Addr} {Q : Fin → Shared → Prop} (hC : h.get? C = some (excClassObj nm q C N bs bm hdct sn sub ab col dd k0 k1 k2 k3 k5 newId))
    (hi : Looks (model prog w) h (typeLookup (.ref C) "__init__") (some (.ref fI))) (hb : ∀ self, Looks (model prog w) h (bindSpecial (.ref fI) self) (.ref fI, [self])) (hl : us.length ≤ sizeLine)
    (z : codeAny (model prog w) A (.call (.ref fI) ⟨.ref (h.objs.size + 1) :: us, []⟩) (fun r s' => match r with | .ok (.ret v) => v = .none ∧ Q (.done (.ret (.ref (h.objs.size + 1)))) s' | .ok _ => False | .error e => E e s')
      ⟨(h.push (excTup us)).push (excObj C h.objs.size none .none), g, d, t, os⟩) : wpAny (model prog w) A (Builtin.«type.__call__» ⟨.ref C :: us, []⟩) Q E ⟨h, g, d, t, os⟩ := by
  repeat (first | with_reducible refine wpAny_loadPart_at hC ?_ | with_reducible refine wpAny_madeBy_exc hC ?_ | wp_step)
  refine codeAny_call_builtin_code (Code.quiet_builtin _ F.quiet) (eb_checked F Y hC (eb_new F Y hC hl ?_))
  show wpAny _ _ _ _ _ _
  have k : ∀ b o, h.get? b = some o → ((h.push (excTup us)).push (excObj C h.objs.size none .none)).get? b = some o := fun b o e => Heap.get?_push_of_some _ (Heap.get?_push_of_some _ e)
  have hC2 := k _ _ hC
  have hX : ((h.push (excTup us)).push (excObj C h.objs.size none .none)).get? (h.objs.size + 1) = some (excObj C h.objs.size none .none) := by heap_get
  have y : (Value.ref C :: bm).contains (.ref C) = true := by simp
  have j := hi.keeps k
  have jb := (hb (.ref (h.objs.size + 1))).keeps k
  unfold isInstance
  repeat (first | with_reducible refine wpAny_loadPart_at hX ?_ | (with_reducible refine wpAny_isSubtype_exc hC2 ?_; rw [y]) | wp_step)
  show wpAny _ _ (typeLookup (.ref C) _) _ _ _
  refine j.at (wpAny_holding (wpAny_bind (jb.at (wpAny_bind (wpAny_call (codeAny_mono z fun r s' x => ?_))))))
  rcases r with e | (v | _ | _ | _) <;> first | exact x | exact x.elim | skip
  obtain ⟨rfl, x⟩ := x
  first
    | exact wpAny_pure (wpAny_pure x)
    | (wp_walk; exact x)
/-- C(..), its __init__ the def at fI -/
theorem eb_call (F : ExcBaseFacts B newId initId bmB) (Y : Bases B newId bm) {us : List Value} {fI : Addr} {Q : Value → Shared → Prop} (hC : h.get? C = some (excClassObj nm q C N bs bm hdct sn sub ab col dd k0 k1 k2 k3 k5 newId))
    (hi : Looks (model prog w) h (typeLookup (.ref C) "__init__") (some (.ref fI))) (hb : ∀ self, Looks (model prog w) h (bindSpecial (.ref fI) self) (.ref fI, [self])) (hl : us.length ≤ sizeLine)
    (z : codeAny (model prog w) (A.under (.builtin "type.__call__" ⟨.ref C :: us, []⟩)) (.call (.ref fI) ⟨.ref (h.objs.size + 1) :: us, []⟩)
      (fun r s' => match r with | .ok (.ret v) => v = .none ∧ Q (.ref (h.objs.size + 1)) s' | .ok _ => False | .error e => E e s') ⟨(h.push (excTup us)).push (excObj C h.objs.size none .none), g, d, t, os⟩) :
    wpAny (model prog w) A (call (.ref C) us) Q E ⟨h, g, d, t, os⟩ := by
  have f1 := tc_lookup
  have f2 := tc_bind (.ref C)
  have hTy : (⟨h, g, d, t, os⟩ : Shared).TypeIs (.ref C) "type" := ⟨_, hC, rfl⟩
  refine wpAny_call (codeAny_of_tree ?_)
  show wpAny _ _ (callAny (.ref C) _) _ _ _
  repeat (any_goals (first | assumption | with_reducible refine wpAny_loadPart_at hC ?_ | wp_step))
  refine ⟨rfl, ?_⟩
  exact codeAny_call_builtin_at (Code.quiet_builtin _ (by decide +kernel)) entry_typeCall (wpAny_check_type_call_sub hC (eb_typeCall F Y hC hi hb hl z))
end
end Vf
namespace Vf
open PySem PySem.Spec PySem.Calls PyProof.Rows PySem.W
/-- the built-in __init__ named i of the type B: BaseException's -/
structure InitB (B i : String) : Prop where
  kind : builtinKind i = some .slot
  row : Manifest.signature? i = some ⟨.positional, "*", B, .self, [⟨"args", .varPos, false⟩]⟩
  entry : entryFor table i = some Builtin.«BaseException.__init__»
  star : (B != "*") = true
  plain : plainId i = true
  kx : KxsFacts B i
theorem InitB.of {B n i : String} (F : ExcCallFacts B n i) (K : KxsFacts B i) : InitB B i := ⟨F.initKind, F.initRow, F.initEntry, F.noStar, F.init.plain, K⟩
theorem initB_KeyError : InitB "KeyError" "KeyError.__init__" := ⟨by kernel_rfl, by kernel_rfl, excClass_KeyError.initEntry, by decide +kernel, by decide +kernel, ⟨by show builtinType _ = _; rw [builtinType_eq_fast]; kernel_rfl, by first | kernel_rfl | rfl⟩⟩
theorem store_KeyError : StoreFacts "KeyError" [.type "KeyError", .type "LookupError", .type "Exception", .type "BaseException", .type "object"] "object.__setattr__" "object" where
  mro := by kernel_rfl
  slot := by refine .of (owner := "object") (n := "__setattr__") (by rw [typeLookup_type, builtinLookup_eq_fast]; kernel_rfl) (by decide +kernel) (by decide +kernel) (by decide +kernel) ?_ (by rw [isSubtype_type]; kernel_rfl); first | exact .inl (by decide +kernel) | exact .inr (by decide +kernel)
  entry := PySem.F.store_LookupError.entry
  kind := PySem.F.store_LookupError.kind
  split := PySem.F.store_LookupError.split
  hasOwner := by decide +kernel
  args := PySem.F.store_LookupError.args
  passes := fun self => by kernel_rfl
section
variable {M : Model} {prog : Program} {w : World} {A : Around} {E : Value → Shared → Prop} {R : Result → Shared → Prop} {h : Heap} {g : Array GenState} {d : Drawn} {t : Nat} {os : OsState}
variable {nm q : Str} {C N : Addr} {bs bm bmB : List Value} {hdct : Bool} {sn : List Str} {sub : List Value} {ab : Bool} {col : Option Bool} {dd : Option Addr} {k0 k1 k2 k3 k5 : Option Value} {B newId i : String}
/-- super().__init__(..), bound: the arguments are laid anew -/
theorem eb_init (I : InitB B i) {us : List Value} {e u t0 : Addr} {Q : Value → Shared → Prop} (hC : h.get? C = some (excClassObj nm q C N bs bm hdct sn sub ab col dd k0 k1 k2 k3 k5 newId))
    (he : h.get? e = some (excObj C t0 none .none)) (hu : h.get? u = some (kxs_mw i e)) (hl : us.length ≤ sizeLine)
    (z : ∀ h', (∀ b o, b ≠ e → h.get? b = some o → h'.get? b = some o) → h'.get? e = some (excObj C h.objs.size none .none) → Q .none ⟨h', g, d, t, os⟩) : wpAny (model prog w) A (call (.ref u) us) Q E ⟨h, g, d, t, os⟩ := by
  refine wpAny_call (codeAny_of_tree ?_)
  show wpAny _ A.in1 (callAny (.ref u) ⟨us, []⟩) _ _ _
  simp only [callAny]
  refine wpAny_bind (wpAny_load hu ?_)
  simp only [kxs_mw, show (Value.type "method-wrapper" == Value.type "method" || Value.type "method-wrapper" == Value.type "builtin_function_or_method" || Value.type "method-wrapper" == Value.type "method-wrapper") = true by decide, if_true]
  refine KFB.if_so (by decide) (wpAny_bind ?_)
  show wpAny _ _ (checkBoundCall i ⟨.ref e :: us, []⟩) _ _ _
  have hstar := I.star
  simp only [checkBoundCall, I.kind, I.row]
  repeat (first | (with_reducible refine wpAny_loadPart_at he ?_) | with_reducible refine wpAny_loadPart_at hC ?_ | wp_step)
  refine wpAny_onRaise ?_
  rw [show ∀ (a b : String) (n : Nat), Bind.check ⟨.positional, "*", B, .self, [⟨"args", .varPos, false⟩]⟩ a b n (List.map (fun x => x.fst) ({ pos := Value.ref e :: us } : Args).kw) = pure () from fun a b n => check_star_args _ _ _ _ _ _]
  refine wpAny_pure (wpAny_bind (wpAny_pure (wpAny_pure ⟨plainId_quiet I.plain _, codeAny_builtin I.entry ?_⟩)))
  exact exc_init_tree (cls := .ref C) (t0 := t0) (dv := none) (c2 := .none) (c3 := .none) (b4 := .bool false) he hl fun h' k e' _ => z h' k e'
end
end Vf

namespace Vf
open PySem PySem.Spec PySem.Calls PyProof.Rows PySem.W
/-- super().__init__(text); self.f = n -/
abbrev ebBody (msg n f : Str) (j : Nat) (p0 p1 p2 p3 p4 p5 p6 p7 p8 p9 : Pos) : List Stmt :=
  [.Expr (.Call (.Attribute (.Call (.Name "super" p0) [] [] p1) "__init__" p2) [.Constant (.str msg) j p3] [] p4) p5, .Assign [.Attribute (.Name "self" p6) f p7] (.Name n p8) p9]
/-- what the places of the body say -/
structure EbOk (msg n f : Str) (j : Nat) (p0 p1 p2 p3 p4 p5 p6 p7 p8 p9 : Pos) : Prop where
  call : ∃ pl, ∀ env, eval (.Call (.Attribute (.Call (.Name "super" p0) [] [] p1) "__init__" p2) [.Constant (.str msg) j p3] [] p4) env = (do
      let ov ← attributeBase (.Call (.Name "super" p0) [] [] p1) "__init__" env (eval (.Call (.Name "super" p0) [] [] p1) env)
      standAt p2.atName
      let (f, first) ← holding [ov] (getMethod ov "__init__" pl)
      callWith p4 f first (backTo p4 (starEach [.Constant (.str msg) j p3] env)) [])
  sw1 : ∀ env, swapsWith (.Call (.Attribute (.Call (.Name "super" p0) [] [] p1) "__init__" p2) [.Constant (.str msg) j p3] [] p4) none p5.line env = pure false
  sw2 : ∀ env, swapsWith (.Name n p8) (some (.Attribute (.Name "self" p6) f p7)) p9.line env = pure false
  one : ([.str msg 0] : List Value).length ≤ sizeLine
  nd : (n == ("__debug__" : Str)) = false
  ns : n ≠ "self"
/-- the text of such a class, as the top has left it -/
structure ErrT (p : Program) (K : Frag) (mg : Str → Option Value) (C fI : Addr) (n f : Str) : Prop where
  kC : keepIn K (.ref C) = true
  iC : findIn K (.ref C) "__init__" = some (some (.ref fI))
  fn : isFn K (.ref fI) = true
  made : ∃ B0 newId i0 bm0 B i bm Bs bmB nm qn N bs hdct sn sub ab col dd k0 k1 k2 k3 k5, ExcBaseFacts B0 newId i0 bm0 ∧ Bases B0 newId bm ∧ K.lookup C = some (excClassObj nm qn C N bs bm hdct sn sub ab col dd k0 k1 k2 k3 k5 newId) ∧ InitB B i ∧
    ks_superIn K C C "__init__" = some (some (.builtin i)) ∧ subIn K (.ref C) (.type B) = some true ∧ StoreFacts Bs bmB "object.__setattr__" "object" ∧ excOver K C bmB = true
  me : mroIn K C (.ref C) = some true
  sa : findIn K (.ref C) "__setattr__" = some (some (.builtin "object.__setattr__"))
  tk : takerIn K C f = some none
  hd : hasDictIn K C = true
  tp : nsIn K cStatics "thirdparty.any" = some none
  sup : mg "super" = none
  df : ∃ oc od osl name qual params scope dV kV doc pm an cda ct cc msg j p0 p1 p2 p3 p4 p5 p6 p7 p8 p9 ccl cdd vs ccs file tf cl cld csl, K.lookup fI = some ⟨oc, od, .func (ksFn name qual params (ebBody msg n f j p0 p1 p2 p3 p4 p5 p6 p7 p8 p9) scope dV kV doc pm an (.ref cda) ct cc), osl⟩ ∧ codeIn K (.ref cda) qual = true ∧
    (∀ (s : Shared) (x y : Value), BindsTo s (ksFn name qual params (ebBody msg n f j p0 p1 p2 p3 p4 p5 p6 p7 p8 p9) scope dV kV doc pm an (.ref cda) ct cc) ⟨[x, y], []⟩ [("self", x), (n, y)]) ∧
    (params.posonlyargs ++ params.args).head?.map (·.arg) = some "self" ∧ K.lookup cda = some ⟨ccl, cdd, .fields vs, ccs⟩ ∧ vs[2]? = some (.str file tf) ∧ ((p.main.file : Str) == file) = true ∧ K.lookup cc = some ⟨cl, cld, .cell (some (.ref C)), csl⟩ ∧
    scope.names.lookup ("super" : Str) = some .globalImplicit ∧ scope.names.lookup ("__class__" : Str) = some .free ∧ scope.names.lookup ("self" : Str) = some .local ∧ scope.names.lookup n = some .local ∧ scope.kind = .function ∧ scope.isCoroutine = false ∧ scope.isGenerator = false ∧ (∀ x ∈ scope.names, x.2 ≠ .cell) ∧
    EbOk msg n f j p0 p1 p2 p3 p4 p5 p6 p7 p8 p9
  htop : (p.main.scope.names.lookup ("super" : Str)).isSome = false
section
variable {prog : Program} {w : World} {A : Around} {E : Value → Shared → Prop} {h : Heap} {g : Array GenState} {d : Drawn} {t : Nat} {os : OsState} {K : Frag} {mg : Str → Option Value} {C fI : Addr} {n f : Str}
theorem ns1_one {h : Heap} {dx : Addr} {hs : Int} {tk : Tok} {v : Value} {k : Nat} (e : h.get? dx = some (dictOf [⟨hs, .str f tk, v⟩] k)) : h.Ns1 dx (fun y => if y = f then some v else none) := by
  refine ⟨_, _, _, e, rfl, fun x hx => ?_, ?_, fun name => ?_⟩
  · have : x = ⟨hs, .str f tk, v⟩ := by simpa using hx
    exact ⟨f, tk, by rw [this]⟩
  · exact List.pairwise_singleton _ _
  · unfold nsFind findBy
    by_cases q : name = f
    · subst q
      simp [Value.isStr]
    · have q2 : ¬ f = name := fun z => q z.symm
      simp [Value.isStr, q, q2]
/-- the def __init__ done at the new object -/
theorem eb_body (T : ErrT prog K mg C fI n f) (X : K.In h) (G : h.Ns mainGlobals mg) (Bt : ∃ mb, h.Ns builtinsNs mb ∧ ∀ x : Str, x ≠ "__name__" → mb x = bootBuiltins x) (nl : h.NoLimit) (room : A.depth < recursionLimit) {u : Value} {R : Result → Shared → Prop}
    (z : ∀ h' dx t1 tk', (∀ b o, h.get? b = some o → h'.get? b = some o) → h.get? dx = none → dx ≠ h.objs.size + 1 → h'.get? (h.objs.size + 1) = some (excObj C t1 (some dx) .none) → h'.Ns1 dx (fun y => if y = f then some u else none) →
      R (.ok (.ret .none)) ⟨h', g, d, tk', os⟩) :
    codeAny (model prog w) A (.call (.ref fI) ⟨[.ref (h.objs.size + 1), u], []⟩) R ⟨(h.push (excTup [u])).push (excObj C h.objs.size none .none), g, d, t, os⟩ := by
  obtain ⟨B0, newId, i0, bm0, B, i, bm, Bs, bmB, nm, qn, N, bs, hdct, sn, sub, ab, col, dd, k0, k1, k2, k3, k5, F, Y, hC, I, hsup, hB, SF, ho⟩ := T.made
  obtain ⟨oc, od, osl, name, qual, params, scope, dV, kV, doc, pm, an, cda, ct, cc, msg, j, p0, p1, p2, p3, p4, p5, p6, p7, p8, p9, ccl, cdd, vs, ccs, file, tf, cl, cld, csl, lf, lc, hbd, hps, lcd, hvs, hfile, lcc, s1, s2, s3, s4, sk, sc1, sc2, sc3, Z⟩ := T.df
  have kk : ∀ b o, h.get? b = some o → ((h.push (excTup [u])).push (excObj C h.objs.size none .none)).get? b = some o := fun b o e => Heap.get?_push_of_some _ (Heap.get?_push_of_some _ e)
  have hX : ((h.push (excTup [u])).push (excObj C h.objs.size none .none)).get? (h.objs.size + 1) = some (excObj C h.objs.size none .none) := by heap_get
  have sz : ((h.push (excTup [u])).push (excObj C h.objs.size none .none)).objs.size = h.objs.size + 2 := by rw [Heap.size_push, Heap.size_push]
  have X1 := X.keeps kk
  have fresh : ∀ b, h.objs.size ≤ b → h.get? b = none := fun b hb => Heap.get?_none_of_le hb
  refine ks_codeAny_call_defAt (fd := ksFn name qual params (ebBody msg n f j p0 p1 p2 p3 p4 p5 p6 p7 p8 p9) scope dV kV doc pm an (.ref cda) ct cc) (body := ebBody msg n f j p0 p1 p2 p3 p4 p5 p6 p7 p8 p9)
    (binds := [("self", .ref (h.objs.size + 1)), (n, u)]) room (X1 _ _ lf) rfl (nl.keeps kk) (codeRec_of X1 lc) rfl (hbd _ _ _) sc3 (fun x hx => ?_) (fun h1 hn1 hk1 => ?_) sc1 sc2 sk
  · rcases List.mem_cons.mp hx with rfl | hx
    · exact s3
    · rcases List.mem_cons.mp hx with rfl | hx
      · exact s4
      · cases hx
  rw [sz] at hn1
  have F1 : Fr h (h.objs.size + 2) h1 _ := ⟨hn1, fun b o e => hk1 b o (kk b o e), by omega⟩
  have N1 : News h (h.objs.size + 2) h1 [(h.objs.size + 1, excObj C h.objs.size none .none)] := fun p hp => by
    rcases List.mem_cons.mp hp with rfl | hp
    · exact ⟨hk1 _ _ hX, by show h.objs.size + 1 ≠ h.objs.size + 2; omega, fresh _ (by show h.objs.size ≤ h.objs.size + 1; omega)⟩
    · cases hp
  obtain ⟨pl, hev⟩ := Z.call
  obtain ⟨ar, har, hae⟩ := Option.map_eq_some_iff.mp hps
  have vself : (([("self", Value.ref (h.objs.size + 1)), (n, u)] : List (Str × Value)).reverse.lookup ("self" : Str)) = some (Value.ref (h.objs.size + 1)) := by
    have e : (("self" : Str) == n) = false := beq_false_of_ne fun e => Z.ns e.symm
    simp [List.lookup, e]
  have vn : (([("self", Value.ref (h.objs.size + 1)), (n, u)] : List (Str × Value)).reverse.lookup n) = some u := by
    simp [List.lookup]
  dsimp only
  rw [sz]
  show PySem.wpAt _ _ _ (execs _ (ksEnv qual scope (h.objs.size + 2) fI (.ref cda) cc)) _ _ _
  refine ks_wpAt_execs_cons (ks_wpAt_Expr_any (ks_wpAt_MethodCall (pl := pl) ?_ (hev _)) (by unfold interactive; dsimp only; rw [sk]; rfl) (Z.sw1 _))
  refine ks_wpAt_super_base (env := ksEnv qual scope (h.objs.size + 2) fI (.ref cda) cc) s1 s2 rfl rfl (hk1 _ _ (X1 _ _ lf)) rfl har rfl (hk1 _ _ (X1 _ _ lcd)) rfl hvs hfile T.htop ?_
  have hC1 : h1.get? C = some (excClassObj nm qn C N bs bm hdct sn sub ab col dd k0 k1 k2 k3 k5 newId) := F1.keep _ _ (X _ _ hC)
  obtain ⟨mb, hb1, hb2⟩ := Bt
  refine ks_loadName_global sk s1 (loadGlobal_builtin (env := ksEnv qual scope (h.objs.size + 2) fI (.ref cda) cc) (G.keeps F1.keep) T.sup (hb1.keeps F1.keep) ((hb2 _ (by decide +kernel)).trans (show bootBuiltins "super" = some (.type "super") by decide +kernel)) ⟨rfl, ?_⟩)
  refine wpAny_loadName_free sk s2 rfl ⟨_, F1.keep _ _ (X _ _ lcc), rfl⟩ ?_
  refine wpAny_loadName_local (v := .ref (h.objs.size + 1)) sk (by rw [hae]; exact s3) F1.ns (by rw [hae]; exact vself) ?_
  refine ks_wpAny_isType_cls hC1 rfl ⟨rfl, ?_⟩
  refine ks_wpAny_call_super hC1 rfl (N1 _ List.mem_cons_self).1 rfl (fun c e => nomatch e) (looks_mroIn (X.keeps F1.keep) T.me) (fun h2 eso k2 => ?_)
  obtain ⟨F2, N2, _⟩ := ks_newsPush (s := ⟨h1, g, d, t + 2, os⟩) F1 N1 rfl eso k2
  refine kxs_method (odx := none) I.kx F2 X N2 List.mem_cons_self ⟨(N2 (h.objs.size + 1, excObj C h.objs.size none .none) (List.mem_cons_of_mem _ List.mem_cons_self)).1, rfl, rfl, trivial⟩ T.tp hsup hB rfl (fun q3 h3 F3 N3 _ => ?_)
  refine kxs_callWith1 N3 List.mem_cons_self ?_
  refine Calls.spliced_cons (wpAny_Constant_str (k := j) (pos := p3) (Calls.spliced_nil ⟨kxs_at N3 List.mem_cons_self, ?_⟩))
  have hX3 := (N3 (h.objs.size + 1, excObj C h.objs.size none .none) (List.mem_cons_of_mem _ (List.mem_cons_of_mem _ List.mem_cons_self))).1
  refine eb_init I (F3.keep _ _ (X _ _ hC)) hX3 (kxs_at N3 List.mem_cons_self) (by exact Z.one) fun h4 k4 hX4 => ?_
  have nX : h.get? (h.objs.size + 1) = none := fresh _ (Nat.le_succ _)
  have F4 : Fr h (h.objs.size + 2) h4 (fun x => ([("self", Value.ref (h.objs.size + 1)), (n, u)] : List (Str × Value)).reverse.lookup x) := by
    obtain ⟨oL, es, ep, hL, r⟩ := F3.ns
    exact ⟨⟨oL, es, ep, k4 _ _ (by show h.objs.size + 2 ≠ h.objs.size + 1; omega) hL, r⟩, fun b o y => k4 b o (fun e => by rw [e, nX] at y; cases y) (F3.keep b o y), F3.above⟩
  have N4 : News h (h.objs.size + 2) h4 [(h.objs.size + 1, excObj C h3.objs.size none .none)] := fun p hp => by
    rcases List.mem_cons.mp hp with rfl | hp
    · exact ⟨hX4, by show h.objs.size + 1 ≠ h.objs.size + 2; omega, nX⟩
    · cases hp
  refine ks_wpAt_execs_cons (ks_wpAt_Assign_Attr (PySem.wpAt_of_wpAny ?_) (Z.sw2 _))
  refine wpAny_Name (wpAny_loadName_local (v := u) sk s4 F4.ns vn ?_) Z.nd
  refine wpAny_Name (wpAny_loadName_local (v := .ref (h.objs.size + 1)) sk s3 F4.ns vself ?_) (by decide)
  refine set_exc0 SF F4 X N4 List.mem_cons_self T.sa ho T.tk T.hd rfl (UpdF.head fun _ q => nomatch q) (by show 1 ≤ 1000; decide) fun dx h5 F5 N5 lt => ?_
  have D := N5 _ List.mem_cons_self
  have hX5 := (N5 _ (List.mem_cons_of_mem _ List.mem_cons_self)).1
  have ns1 : h5.Ns1 dx (fun y => if y = f then some u else none) := ns1_one D.1
  refine PySem.wpAt_of_wpAny (wpAny_execs_nil (z h5 dx _ _ F5.keep D.2.2 (fun e => ?_) hX5 ns1))
  have := lt _ List.mem_cons_self
  rw [e] at this
  exact absurd this (Nat.lt_irrefl _)
end
end Vf

namespace Vf
open PySem PySem.Spec PySem.Calls PyProof.Rows L2
section
variable {X : Cx} {pins : List (Addr × Obj)} {σ : L2.St} {H : Hp} {s : Shared} {C fI : Addr} {n f : Str} {x : Str} {e : Expr} {te : TE} {p pos : Pos} {k : Nat}
/-- C(u): the heap behind it, its two objects laid one after the other -/
theorem err_call (T : ErrT X.prog X.K X.mg C fI n f) (hr : Room (k + 1) X.A) (I : Inv X pins σ H s) {y : V} {u : Value} (r : RelV y u) {Q : Value → Shared → Prop} {E : Value → Shared → Prop}
    (q : ∀ (a dx t1 tk' : Nat) (G h' : Heap), Inv X pins σ (upd H dx (.xd [(f, y)])) { s with heap := G, toks := tk' } → (∀ b o, G.get? b = some o → h'.get? b = some o) → G.get? a = none → h'.get? a = some (PySem.W.excObj C t1 (some dx) .none) →
      H a = none → H dx = none → dx ≠ a → Q (.ref a) { s with heap := h', toks := tk' }) : wpAny (model X.prog X.w) X.A (call (.ref C) [u]) Q E s := by
  obtain ⟨B0, newId, i0, bm0, B, i, bm, Bs, bmB, nm, qn, N, bs, hdct, sn, sub, ab, col, dd, k0, k1, k2, k3, k5, F, Y, hC, J, hsup, hB, SF, ho⟩ := T.made
  have I0 := I
  obtain ⟨h, g, d, t, os⟩ := s
  refine eb_call F Y (I.kIn _ _ hC) (PySem.W.looks_findIn I.kIn T.iC) (fun self => PySem.W.bind_fn I.kIn self (beq_iff_eq.mp T.fn)) (by show 1 ≤ sizeLine; rw [sizeLine_eq]; omega) ?_
  obtain ⟨mb, hb1, hb2⟩ := I.mod.blt
  refine eb_body T I.kIn (I.mod.glob.keeps I.bk) ⟨mb, hb1.keeps I.bk, hb2⟩ (I.mod.nolimit.keeps I.bk) (hr.make C [u] []).depth (fun h' dx t1 tk' kk nd ne ha ns1 => ⟨rfl, ?_⟩)
  obtain ⟨G, g1, g2⟩ := restrict h' fun b => decide (b ≠ h.objs.size + 1)
  have nA : h.get? (h.objs.size + 1) = none := Heap.get?_none_of_le (Nat.le_succ _)
  have gk : ∀ b, b ≠ h.objs.size + 1 → G.get? b = h'.get? b := fun b hb => g1 b (decide_eq_true hb)
  have ga : G.get? (h.objs.size + 1) = none := g2 _ (by simp)
  have kG : ∀ b o, h.get? b = some o → G.get? b = some o := fun b o z => (gk b (fun e => by rw [e, nA] at z; cases z)).trans (kk b o z)
  have Hd : H dx = none := I.hok.gone nd
  have r1 : ∀ m, RelO (([(f, y)] : List (Str × V)).lookup m) (if m = f then some u else none) := fun m => by
    by_cases hm : m = f
    · subst hm
      rw [if_pos rfl]
      simp only [List.lookup, beq_self_eq_true]
      exact r
    · rw [if_neg hm]
      simp only [List.lookup, beq_false_of_ne hm]
      trivial
  have I2 : Inv X pins σ (upd H dx (.xd [(f, y)])) ⟨G, g, d, tk', os⟩ := I.laidN (t' := tk') (h' := G) kG nd Hd ⟨_, ns1.at fun o z => (gk dx ne).trans z, r1⟩
  exact q (h.objs.size + 1) dx t1 tk' G h' I2 (fun b o z => by
    by_cases hb : b = h.objs.size + 1
    · rw [hb, ga] at z; cases z
    · rw [← gk b hb]; exact z) ga ha (I.hok.gone nA) Hd ne
/-- C(e) as a value -/
theorem pe_err (T : ErrT X.prog X.K X.mg C fI n f) (hr : Room (k + 1) X.A) (hg : Gl X x) (gC : X.mg x = some (.ref C)) (he : PE X e te) (hdb : (x == ("__debug__" : Str)) = false := by decide)
    (hs : starEach [e] X.env = (false, eval e X.env) :: starEach [] X.env := by rfl) :
    PE X (.Call (.Name x p) [e] [] pos) (fun σ H Q => te σ H fun y H1 => ∀ a dx, H1 a = none → H1 dx = none → dx ≠ a → Q (.ref a) (upd (upd H1 dx (.xd [(f, y)])) a (exo a C (some dx)))) := by
  refine ⟨fun pins s σ H Q I h => ?_⟩
  refine wpAny_Call_Name_kw (ld_glob I hg gC ?_ hdb)
  refine PySem.W.callWith_K (h₀ := X.base) I.ok.mod.kin T.kC ?_ hs (by rfl)
  rw [hs]
  show wpAny _ _ (spliced ((false, eval e X.env) :: backTo pos (starEach [] X.env))) _ _ s
  refine Calls.spliced_cons (thn (he.run pins s σ H _ I h) fun u s1 ⟨v, H1, I1, r1, q1⟩ => ?_)
  refine Calls.spliced_nil ⟨I1.kIn, ?_⟩
  show wpAny _ _ (call (.ref C) [u]) _ _ _
  refine err_call T hr I1 r1 (fun a dx t1 tk' G h' J kG ga ha na nd ne => ?_)
  have na' : upd H1 dx (.xd [(f, v)]) a = none := by rw [upd_ne (Ne.symm ne)]; exact na
  exact ⟨.ref a, upd (upd H1 dx (.xd [(f, v)])) a (exo a C (some dx)), J.laidN (t' := tk') (h' := h') kG ga na' (exo_ok ha), rfl, q1 a dx na nd ne⟩
/-- C(e) to be raised -/
theorem pmk_err (T : ErrT X.prog X.K X.mg C fI n f) (hr : Room (k + 1) X.A) (rs : Raises X (.ref C)) (hg : Gl X x) (gC : X.mg x = some (.ref C)) (he : PE X e te) (hdb : (x == ("__debug__" : Str)) = false := by decide)
    (hs : starEach [e] X.env = (false, eval e X.env) :: starEach [] X.env := by rfl) :
    PMk X (.Call (.Name x p) [e] [] pos) (fun σ H Q => te σ H fun y H1 => ∀ dx, H1 dx = none → Q (.ref C) (some dx) (upd H1 dx (.xd [(f, y)]))) := by
  intro pins s σ H Q I h
  refine wpAny_Call_Name_kw (ld_glob I hg gC ?_ hdb)
  refine PySem.W.callWith_K (h₀ := X.base) I.ok.mod.kin T.kC ?_ hs (by rfl)
  rw [hs]
  show wpAny _ _ (spliced ((false, eval e X.env) :: backTo pos (starEach [] X.env))) _ _ s
  refine Calls.spliced_cons (thn (he.run pins s σ H _ I h) fun u s1 ⟨v, H1, I1, r1, q1⟩ => ?_)
  refine Calls.spliced_nil ⟨I1.kIn, ?_⟩
  show wpAny _ _ (call (.ref C) [u]) _ _ _
  refine err_call T hr I1 r1 (fun a dx t1 tk' G h' J kG ga ha na nd ne => ?_)
  have na' : upd H1 dx (.xd [(f, v)]) a = none := by rw [upd_ne (Ne.symm ne)]; exact na
  exact ⟨a, _, _, { s1 with heap := G, toks := tk' }, _, .ref C, some dx, rfl, J, kG, ga, ha, ⟨rfl, rfl⟩, rfl, rfl, na', rfl, J.bare, rs, q1 dx nd⟩
end
end Vf

/-! VfU: errors as values: their field, isinstance. -/
namespace Vf
open PySem PySem.Spec PySem.Calls PyProof.Rows L2
/-- at a: an error of the class at D, not raised; without a dict, or with one -/
inductive ErrAt (H : Hp) (a D : Addr) : Prop
  | bare (e : H a = some (ExO (.ref D) a))
  | held (dx : Addr) (fs : List (Str × V)) (e : H a = some (exo a D (some dx))) (d : H dx = some (.xd fs))
/-- what the class at D says to isinstance and to the point -/
structure ErrK (K : PySem.W.Frag) (D : Addr) (m : List Value) : Prop where
  cls : ∃ cd, PySem.W.clsIn K D = some cd ∧ cd.mro = .ref D :: m ∧ cd.hasDict = true
  ty : PySem.W.typeIn K (.ref D) = some (.type "type")
  ga : PySem.W.findIn K (.ref D) "__getattribute__" = some (some (.builtin "BaseException.__getattribute__"))
  gt : PySem.W.findIn K (.ref D) "__getattr__" = some none
  sb : PySem.W.subIn K (.ref D) (.type "BaseException") = some true
  ca : PySem.W.findIn K (.ref D) "__class__" = some (some (.builtin "object.__class__"))
  cg : PySem.W.specialIn K (.builtin "object.__class__") "__get__" = some (some (.builtin "getset_descriptor.__get__"))
  ct : PySem.W.takesIn K (.builtin "object.__class__") = some true
  ob : PySem.W.mroIn K D (.type "object") = some true
section
variable {X : Cx} {pins : List (Addr × Obj)} {σ : L2.St} {H : Hp} {s : Shared} {a D : Addr} {m : List Value}
theorem errAt_inst (I : Inv X pins σ H s) (h : ErrAt H a D) : ∃ ox od, PySem.W.InstAt s.heap a ox D od := by
  cases h with
  | bare e =>
    obtain ⟨⟨oe, vs, ho, hz, hd, _⟩, _, _⟩ := I.hok a _ e
    obtain ⟨oc, od, dt, sl⟩ := oe
    obtain ⟨h1, h2⟩ := hz
    dsimp only at h1 h2 hd
    subst h1 h2 hd
    exact ⟨_, none, ho, rfl, rfl, trivial⟩
  | held dx fs e d =>
    obtain ⟨t1, ho⟩ := exo_at I.hok e
    have hx : ObjOk X.prog X.w H s.heap dx (.xd fs) := I.hok dx _ d
    obtain ⟨mA, hns, _⟩ := hx
    obtain ⟨od, hod, _⟩ := lookIn_ns hns
    exact ⟨_, some od, ho, rfl, rfl, hod⟩
/-- isinstance(e, c) -/
def rIsErr (K : PySem.W.Frag) : List V → Hp → VK → Prop := fun xs H Q => ∃ (a D : Addr) (m : List Value) (c : V) (u : Value) (b : Bool), xs = [.ref a, c] ∧ ErrAt H a D ∧ ErrK K D m ∧ ClsV c u ∧ PySem.W.kitOne K (.ref D) u = some b ∧ Q (.bl b) H
theorem call_isErr : CallR X (.builtin "isinstance") (rIsErr X.K) := by
  intro pins s σ H xs us Q I r h
  obtain ⟨a, D, m, c, u, b, rfl, ea, T, k, e, q⟩ := h
  obtain ⟨u1, u2, rfl, r1, r2⟩ := vals2 r
  have e2 := k.eq r2
  subst e2
  obtain rfl : u1 = Value.ref a := r1
  obtain ⟨ox, od, J⟩ := errAt_inst I ea
  obtain ⟨cd, hc, hm, hd⟩ := T.cls
  have hs : (PySem.W.clsIn X.K D).isSome = true := by rw [hc]; rfl
  have hh : PySem.W.hasDictIn X.K D = true := by unfold PySem.W.hasDictIn; rw [hc]; exact hd
  exact PySem.W.kia_one (H := fun h => PySem.W.InstAt h a ox D od) (PySem.W.kitx_exc hs T.ga T.gt T.sb T.ca T.cg T.ct T.ob) I.kIn J e (fun z => nomatch z) fun tk => ⟨.bl b, H, I.tok tk, rfl, q⟩
theorem mro_err {K : PySem.W.Frag} (T : ErrK K D m) (c : Value) : PySem.W.mroIn K D c = some ((Value.ref D :: m).contains c) := by
  obtain ⟨cd, hc, hm, hd⟩ := T.cls
  unfold PySem.W.mroIn
  rw [hc, Option.bind_some, hm, if_neg (show ¬ (List.isEmpty (Value.ref D :: m) = true) from Bool.false_ne_true)]
/-- the answer -/
theorem kit_cls {K : PySem.W.Frag} {C : Addr} {mC : List Value} (T : ErrK K D m) (TC : ErrK K C mC) : PySem.W.kitOne K (.ref D) (.ref C) = some ((Value.ref D :: m).contains (.ref C)) := by
  obtain ⟨cd, hc, _, _⟩ := TC.cls
  unfold PySem.W.kitOne
  by_cases e : (Value.ref D == Value.ref C) = true
  · rw [if_pos e, List.contains_cons, BEq.comm, e, Bool.true_or]
  · rw [if_neg e]
    show (if ((PySem.W.clsIn K C).isSome && PySem.W.typeIn K (.ref C) == some (.type "type")) = true then PySem.W.mroIn K D (.ref C) else none) = _
    rw [hc, TC.ty, if_pos (by rfl), mro_err T]
theorem kit_type {K : PySem.W.Frag} {n : String} (T : ErrK K D m) (hn : PySem.W.kitMeta n = true) : PySem.W.kitOne K (.ref D) (.type n) = some (m.contains (.type n)) := by
  show (if PySem.W.kitMeta n = true then PySem.W.mroIn K D (.type n) else none) = _
  rw [if_pos hn, mro_err T, List.contains_cons]
  rfl
end
section
variable {X : Cx} {f : Str} {e : Expr} {te : TE} {pos : Pos}
/-- e.f -/
def tErrF (K : PySem.W.Frag) (f : Str) (te : TE) : TE := fun σ H Q => te σ H fun x H1 => ∃ (a D dx : Addr) (m : List Value) (fs : List (Str × V)) (v : V), x = .ref a ∧ H1 a = some (exo a D (some dx)) ∧ H1 dx = some (.xd fs) ∧ ErrK K D m ∧ PySem.W.findIn K (.ref D) f = some none ∧ fs.lookup f = some v ∧ Q v H1
theorem pe_errF (he : PE X e te) (hb : attributeBase e f X.env (eval e X.env) = eval e X.env := by rfl) : PE X (.Attribute e f pos) (tErrF X.K f te) := by
  refine ⟨fun pins s σ H Q I h => ?_⟩
  refine attr_of hb (thn (he.run pins s σ H _ I h) fun u s1 ⟨x, H1, I1, rx, a, D, dx, m, fs, v, ex, ea, ed, T, hno, l, q⟩ => ?_)
  subst ex
  obtain rfl : u = Value.ref a := rx
  have hx : ObjOk X.prog X.w H1 s1.heap dx (.xd fs) := I1.hok dx _ ed
  obtain ⟨mA, hns, hr⟩ := hx
  obtain ⟨od, ho, hl⟩ := lookIn_ns hns
  obtain ⟨t1, hoa⟩ := exo_at I1.hok ea
  obtain ⟨y, hy, ry⟩ := RelO.some_of (v := v) (o := mA f) (by rw [← l]; exact hr f)
  obtain ⟨cd, hc, _, hd⟩ := T.cls
  have hh : PySem.W.hasDictIn X.K D = true := by unfold PySem.W.hasDictIn; rw [hc]; exact hd
  have J : PySem.W.InstAt s1.heap a _ D (some od) := ⟨hoa, rfl, rfl, ho⟩
  exact HandSPX.exc_get I1.kIn J T.ga T.gt T.sb (PySem.W.findObj_own hh hno rfl (by rw [hl, hy])) (handed_of ry) ⟨v, H1, I1.tok _, ry, q⟩
end
end Vf

/-! VfT: try with several clauses, each of a class or of a pair of classes. -/
namespace Vf
open PySem PySem.Spec PySem.Calls PyProof.Rows L2
/-- the classes that a clause names -/
inductive Clause (X : Cx) : Expr → List Value → Prop
  | one {x : Str} {c : Value} {np : Pos} (h : Names X x c) : Clause X (.Name x np) [c]
  | two {x y : Str} {c e : Value} {p q pos : Pos} {k : Nat} (h : Names X x c) (h' : Names X y e) : Clause X (.Tuple [.Name x p, .Name y q] k pos) [c, e]
/-- does a class stand below one of these -/
def hitBy (K : PySem.W.Frag) (cls : Value) : List Value → Option Bool
  | [c] => PySem.W.exmOne K cls c
  | cs => PySem.W.exmAny K cls cs
theorem flyZ_keeps {B h h' : Heap} {l : List Env} {e : Addr} {Z : Obj → Prop} (x : HandSPX.FlyingZ B l e Z h) (k : ∀ b o, h.get? b = some o → h'.get? b = some o) : HandSPX.FlyingZ B l e Z h' := by
  obtain ⟨a1, a2, a3, oe, vs, T, oT, ts, b1, b2, b3, b4, b5, b6, b7, b8⟩ := x
  exact ⟨fun b o q => k b o (a1 b o q), a2, a3.of_keeps fun b o q _ => ⟨o, k b o q, rfl⟩, oe, vs, T, oT, ts, k _ _ b1, b2, b3, b4, b5, b6, k _ _ b7, b8⟩
section
variable {X : Cx} {pins : List (Addr × Obj)} {σ : L2.St} {H : Hp} {s : Shared}
theorem name_at (I : Inv X pins σ H s) {A : Around} {x : Str} {c : Value} {np : Pos} {Q E : Value → Shared → Prop} (h : Names X x c) (hA : X.A = A) (q : Q c s) : wpAny (model X.prog X.w) A (eval (.Name x np) X.env) Q E s := by
  subst hA
  obtain ⟨hg, hd, hm | ⟨hm, hv, hn⟩⟩ := h
  · exact ld_glob I hg hm q hd
  · exact ld_blt I hg hm hv q hn hd
/-- the clause asked of the error at a -/
theorem clause_at (I : Inv X pins σ H s) {A : Around} (hA : X.A = A) {t : Expr} {cs : List Value} {cls : Value} {a : Addr} {b : Bool} (ht : Clause X t cs) (hb : hitBy X.K cls cs = some b) (LT : PySem.W.Looks (model X.prog X.w) s.heap (typeOf (.ref a)) cls)
    {Q : Value → Shared → Prop} {E : Value → Shared → Prop} (q : ∀ (c : Value) (h' : Heap), (∀ u o, s.heap.get? u = some o → h'.get? u = some o) → PySem.W.Looks (model X.prog X.w) h' (excMatches (.ref a) c) b → Q c { s with heap := h' }) :
    wpAny (model X.prog X.w) A (eval t X.env) Q E s := by
  cases ht with
  | one h => exact name_at I h hA (q _ s.heap (fun _ _ z => z) (PySem.W.exm_one I.kIn LT hb))
  | @two x y c e p1 p2 pos k h h' =>
    refine wpAny_Tuple (wpAny_items_cons (name_at I h hA (wpAny_items_cons (name_at I h' hA (wpAny_items_nil ⟨by size_fits, ?_⟩)))))
    have kp : ∀ u o, s.heap.get? u = some o → (s.heap.push { cls := .type "tuple", data := .seq [c, e].toArray }).get? u = some o := fun _ _ z => Heap.get?_push_of_some _ z
    exact q _ _ kp (PySem.W.exm_tup2 (I.kIn.keeps kp) (LT.keeps kp) (Heap.get?_push_size s.heap rfl) hb)
end
abbrev Suit := Addr → Value → Option Addr → TS
/-- what the clauses wish of an error of the body, one after the other -/
def wSets (K : PySem.W.Frag) (Wout : WX) (D : Ends) : List (List Value × Suit) → WX
  | [] => Wout
  | (cs, ts) :: r => fun cls d σ H => ∃ b, hitBy K cls cs = some b ∧ (b = true → ∀ a, H a = none → ts a cls d D σ H) ∧ (b = false → wSets K Wout D r cls d σ H)
inductive Clauses (X : Cx) : List ExceptHandler → List (List Value × Suit) → Prop
  | nil : Clauses X [] []
  | cons {t : Expr} {cs : List Value} {ts : Suit} {b₀ : Stmt} {suite : List Stmt} {pos : Pos} {hds : List ExceptHandler} {l : List (List Value × Suit)} (hc : Clause X t cs)
      (hsu : ∀ (a : Addr) (oe : Obj) (cls : Value) (d : Option Addr) (pn : List (Addr × Obj)), Zc cls d oe → (∃ vs, oe.data = .fields vs) → PSs (X.suite a ((a, oe) :: pn)) (b₀ :: suite) (ts a cls d)) (r : Clauses X hds l) :
      Clauses X (.ExceptHandler (some t) none (b₀ :: suite) pos :: hds) ((cs, ts) :: l)
section
variable {X : Cx} {body : List Stmt} {h₀ : ExceptHandler} {hds : List ExceptHandler} {l : List (List Value × Suit)} {pos : Pos} {tb : WX → TS} {Wout : WX}
theorem ps_try_sets (hs : X.stack = X.env :: X.outer) (hf : X.env.frame = some X.env.locals) (tk : Takes X Wout)
    (hb : ∀ (W : WX) (pn : List (Addr × Obj)) (xe : Value → Shared → Prop), Takes (X.tr pn xe) W → PassesOwn (model X.prog X.w) X.A X.env xe → PSs (X.tr pn xe) body (tb W))
    (hh : Clauses X (h₀ :: hds) l) : PS X (.Try body (h₀ :: hds) [] [] pos) (fun D σ H => tb (wSets X.K Wout D l) D σ H) := by
  refine ⟨fun pins s σ H D I h => ?_⟩
  have ok := I.ok
  have hfr : X.A.frames = some (X.env :: X.outer) := by rw [ok.frames, hs]
  -- the clauses, from any heap in which the error flies
  have go : ∀ (a : Addr) (B : Heap) (sI : Shared) (pins' : List (Addr × Obj)) (σ' : L2.St) (H' : Hp) (cls : Value) (d : Option Addr), Inv X pins' σ' H' sI → (∀ b o, sI.heap.get? b = some o → b ∉ frs X.stack → B.get? b = some o) → H' a = none →
      ∀ {hds' : List ExceptHandler} {l' : List (List Value × Suit)}, Clauses X hds' l' → ∀ s3 : Shared, HandSPX.FlyingZ B (X.env :: X.outer) a (Zc cls d) s3.heap → sI.heap.UpToSlots s3.heap → s3.os = sI.os → AllBare s3.gens → wSets X.K Wout D l' cls d σ' H' →
        wpAny (model X.prog X.w) X.A (handleBy (.ref a) X.env hds') (SP X pins' D) X.xe s3 := by
    intro a B sI pins' σ' H' cls d J nb na hds' l' hk
    have notFr : ∀ {h : Heap} {o : Obj} {vs : Array Value}, h.FunFrames B (X.env :: X.outer) → h.get? a = some o → o.data = .fields vs → a ∉ frs (X.env :: X.outer) := fun {h o vs} ff e dd hm => by
      obtain ⟨_, o', e', hnf⟩ := ff.mem hm
      rw [e] at e'; cases e'
      exact hnf _ dd
    have apart : ∀ {h : Heap}, HandSPX.FlyingZ B (X.env :: X.outer) a (Zc cls d) h → a ≠ X.env.locals ∧ a ∉ X.fs := fun {h} fl => by
      obtain ⟨oe, vs, he, hz, hd⟩ := fl.there
      have nfr := notFr fl.2.2.1 he hd
      refine ⟨fun z => nfr (List.mem_filterMap.mpr ⟨X.env, List.mem_cons_self, by rw [hf, z]⟩), fun hm => ?_⟩
      obtain ⟨e, he, q⟩ := List.mem_filterMap.mp hm
      exact nfr (List.mem_filterMap.mpr ⟨e, List.mem_cons_of_mem _ he, q⟩)
    induction hk with
    | nil =>
      intro s3 fl up os ag w
      refine wpAny_handleBy_nil ?_
      obtain ⟨k1, k2, k3, oe, vs, T, oT, ts', he, hz, hd, h1, hr⟩ := id fl
      unfold PySem.passOn
      refine wpAny_bind (wpAny_field he hd h1 ?_)
      rw [if_neg (show ¬ ((Value.ref T == Value.none) = true) from by simp)]
      have fin : wpAny (model X.prog X.w) X.A (setFlight (.ref a) X.env.frame) (fun _ s4 => wpAny (model X.prog X.w) X.A (throw (.ref a) : Sem Flow) (SP X pins' D) X.xe s4) X.xe s3 := by
        rw [hf]
        refine HandSPX.setFlight_upZ fl fun h4 hh4 up4 => wpAny_throw (tk _ _ ?_)
        exact ⟨a, B, sI, pins', σ', H', cls, d, rfl, J, nb, up.trans up4, .inr (.inr (by rw [hs]; exact hh4)), na, os, ag, w⟩
      first
        | exact wpAny_bind (wpAny_pure (wpAny_bind fin))
        | exact wpAny_bind fin
    | @cons t cs ts b₀ suite pos' hds2 l2 hc hsu r ih =>
      intro s3 fl up os ag w
      obtain ⟨b, hb1, hyes, hno⟩ := w
      obtain ⟨oe3, vs3, he3, hz3, hd3⟩ := fl.there
      obtain ⟨nL, nF⟩ := apart fl
      have J3 : Inv X pins' σ' H' s3 := J.landed nb fl.1 up os ag
      have S3 := J3.suite he3 hd3 na nL nF
      refine wpAny_handleBy_cons (codeAny_handlers_test ?_) (by intro q; cases q)
      have LT : PySem.W.Looks (model X.prog X.w) s3.heap (typeOf (.ref a)) cls := fun A Q E s k q => wpAny_typeOf_ref (k _ _ he3) (by rw [hz3.1]; exact q)
      refine clause_at (X := X.suite a ((a, oe3) :: (X.pn ++ pins'))) S3 rfl ?_ hb1 LT (fun c h5 k5 LM => LM.here ?_)
      · cases hc with
        | one h => exact .one h
        | two h h' => exact .two h h'
      have fl5 := flyZ_keeps fl k5
      have up5 : sI.heap.UpToSlots h5 := up.trans (Heap.UpToSlots.of_keeps k5)
      cases b with
      | true =>
        refine codeAny_handlers_suite ?_
        refine HandSPX.lands_againZ fl5 fun h4 fl4 up4 => ?_
        obtain ⟨oe4, vs4, he4, hz4, hd4⟩ := fl4.there
        obtain ⟨nL4, nF4⟩ := apart fl4
        have J4 : Inv X pins' σ' H' { s3 with heap := h4 } := J.landed nb fl4.1 (up5.trans up4) os ag
        have S4 := J4.suite he4 hd4 na nL4 nF4
        refine wpAny_mono ((hsu a oe4 cls d (X.pn ++ pins') hz4 ⟨_, hd4⟩).run [] _ _ H' _ S4 (hyes rfl a na)) (fun f s6 hsp => ?_) (fun _ _ z => False.elim z)
        cases f with
        | ret u =>
          obtain ⟨v6, σ6, H6, S6, r6, q6⟩ := hsp
          exact ⟨_, _, _, S6.unsuite ok, r6, q6⟩
        | next => obtain ⟨σ6, H6, S6, q6⟩ := hsp; exact ⟨_, _, S6.unsuite ok, q6⟩
        | brk => obtain ⟨σ6, H6, S6, q6⟩ := hsp; exact ⟨_, _, S6.unsuite ok, q6⟩
        | cont => obtain ⟨σ6, H6, S6, q6⟩ := hsp; exact ⟨_, _, S6.unsuite ok, q6⟩
      | false =>
        show wpAny _ X.A (handleBy (.ref a) X.env hds2) _ _ _
        exact ih { s3 with heap := h5 } fl5 up5 os ag (hno rfl)
  refine wpAny_Try_except ?_
  refine wpAny_mono ((hb (wSets X.K Wout D l) (X.pn ++ pins) (fun e s₁ => wpAny (model X.prog X.w) X.A (noteFrame e X.env) (fun _ s₂ => wpAny (model X.prog X.w) X.A (setFlight e none) (fun _ s₃ =>
    wpAny (model X.prog X.w) X.A (handleBy e X.env (h₀ :: hds)) (SP X pins D) X.xe s₃) X.xe s₂) X.xe s₁) (fun u s' xx => ?_) PassesOwn.looking).run [] s σ H D (I.toTry _) h) (fun f s1 hsp => ?_) (fun e s1 he => he)
  · obtain ⟨a, B, sI, pins', σ', H', cls, d, rfl, J', nb, up, sky, na, os, ag, w⟩ := xx
    have sky' : Sky B (X.env :: X.outer) a (Zc cls d) X.env.locals s'.heap := by rw [← hs]; exact sky
    show wpAny (model X.prog X.w) X.A (noteFrame (.ref a) X.env) _ _ _
    exact Sky.land Zc.steady hfr hf sky' fun h3 fl3 up3 => go a B sI pins σ' H' cls d (J'.ofTry ok) nb na hh { s' with heap := h3 } fl3 (up.trans up3) os ag w
  · cases f with
    | next => obtain ⟨σ', H', J', q⟩ := hsp; exact wpAny_execs_nil ⟨σ', H', J'.ofTry ok, q⟩
    | brk => obtain ⟨σ', H', J', q⟩ := hsp; exact ⟨σ', H', J'.ofTry ok, q⟩
    | cont => obtain ⟨σ', H', J', q⟩ := hsp; exact ⟨σ', H', J'.ofTry ok, q⟩
    | ret u => obtain ⟨v, σ', H', J', r, q⟩ := hsp; exact ⟨v, σ', H', J'.ofTry ok, r, q⟩
end
end Vf

/-! VfR: an error class without own __init__ over ValueError; facts put together. -/
namespace Vf
open PySem PySem.Spec PySem.Calls PyProof.Rows L2
abbrev veMro : List Value := [.type "ValueError", .type "Exception", .type "BaseException", .type "object"]
structure ErrB (K : PySem.W.Frag) (C : Addr) : Prop where
  l : ∃ nm qn N bs bm hdct sn sub ab col dd k0 k1 k2 k3 k5, K.lookup C = some (excClassObj nm qn C N bs bm hdct sn sub ab col dd k0 k1 k2 k3 k5 "ValueError.__new__") ∧ ∀ x : String, bm.contains (.type x) = veMro.contains (.type x)
  i : PySem.W.findIn K (.ref C) "__init__" = some (some (.builtin "ValueError.__init__"))
  k : PySem.W.keepIn K (.ref C) = true
section
variable {X : Cx} {C : Addr} {x : Str} {e : Expr} {te : TE} {p pos : Pos}
theorem pe_errB (T : ErrB X.K C) (hg : Gl X x) (gC : X.mg x = some (.ref C)) (he : PE X e te) (hdb : (x == ("__debug__" : Str)) = false := by decide)
    (hs : starEach [e] X.env = (false, eval e X.env) :: starEach [] X.env := by rfl) :
    PE X (.Call (.Name x p) [e] [] pos) (fun σ H Q => te σ H fun _ H1 => ∀ a, H1 a = none → Q (.ref a) (upd H1 a (ExO (.ref C) a))) := by
  refine ⟨fun pins s σ H Q I h => ?_⟩
  refine wpAny_Call_Name_kw (ld_glob I hg gC ?_ hdb)
  refine PySem.W.callWith_K (h₀ := X.base) I.ok.mod.kin T.k ?_ hs (by rfl)
  rw [hs]
  show wpAny _ _ (spliced ((false, eval e X.env) :: backTo pos (starEach [] X.env))) _ _ s
  refine Calls.spliced_cons (thn (he.run pins s σ H _ I h) fun u s1 ⟨v, H1, I1, r1, q1⟩ => ?_)
  refine Calls.spliced_nil ⟨I1.kIn, ?_⟩
  show wpAny _ _ (call (.ref C) [u]) _ _ _
  obtain ⟨nm, qn, N, bs, bm, hdct, sn, sub, ab, col, dd, k0, k1, k2, k3, k5, hC, hT⟩ := T.l
  obtain ⟨h, g, d, t, os⟩ := s1
  refine PySem.W.call_B PySem.F.excBase_ValueError hT (I1.kIn _ _ hC) (PySem.W.looks_findIn I1.kIn T.i) (by show 1 ≤ sizeLine; rw [sizeLine_eq]; omega) fun h' k ha _ => ?_
  have nA : h.get? (h.objs.size + 1) = none := Heap.get?_none_of_le (Nat.le_succ _)
  have hn : H1 (h.objs.size + 1) = none := I1.hok.gone nA
  exact ⟨.ref (h.objs.size + 1), upd H1 (h.objs.size + 1) (ExO (.ref C) (h.objs.size + 1)), I1.laidN k nA hn (exO_ok ha ⟨rfl, rfl⟩ rfl rfl rfl (show 4 < 6 by decide)), rfl, q1 _ hn⟩
end
theorem errK_mk {K : PySem.W.Frag} {D : Addr} {m : List Value} {nm qn : Str} {N : Addr} {bs : List Value} {sn : List Str} {sub : List Value} {ab : Bool} {col : Option Bool} {dd : Option Addr} {k0 k1 k2 k3 k5 : Option Value} {newId : String}
    (l : K.lookup D = some (excClassObj nm qn D N bs m true sn sub ab col dd k0 k1 k2 k3 k5 newId)) (ty : PySem.W.typeIn K (.ref D) = some (.type "type"))
    (ga : PySem.W.findIn K (.ref D) "__getattribute__" = some (some (.builtin "BaseException.__getattribute__"))) (gt : PySem.W.findIn K (.ref D) "__getattr__" = some none) (sb : PySem.W.subIn K (.ref D) (.type "BaseException") = some true)
    (ca : PySem.W.findIn K (.ref D) "__class__" = some (some (.builtin "object.__class__"))) (cg : PySem.W.specialIn K (.builtin "object.__class__") "__get__" = some (some (.builtin "getset_descriptor.__get__"))) (ct : PySem.W.takesIn K (.builtin "object.__class__") = some true)
    (ob : PySem.W.mroIn K D (.type "object") = some true) : ErrK K D m :=
  ⟨⟨_, by unfold PySem.W.clsIn; rw [l] <;> rfl, rfl, rfl⟩, ty, ga, gt, sb, ca, cg, ct, ob⟩
theorem errB_mk {K : PySem.W.Frag} {D : Addr} {bm : List Value} {nm qn : Str} {N : Addr} {bs : List Value} {sn : List Str} {sub : List Value} {ab : Bool} {col : Option Bool} {dd : Option Addr} {k0 k1 k2 k3 k5 : Option Value}
    (l : K.lookup D = some (excClassObj nm qn D N bs bm true sn sub ab col dd k0 k1 k2 k3 k5 "ValueError.__new__")) (hT : ∀ x : String, bm.contains (.type x) = veMro.contains (.type x))
    (i : PySem.W.findIn K (.ref D) "__init__" = some (some (.builtin "ValueError.__init__"))) (k : PySem.W.keepIn K (.ref D) = true) : ErrB K D := ⟨⟨_, _, _, _, _, _, _, _, _, _, _, _, _, _, _, _, l, hT⟩, i, k⟩
theorem ve_ref {c : Addr} (x : String) : (Value.ref c :: veMro).contains (.type x) = veMro.contains (.type x) := by
  rw [List.contains_cons]
  rfl
theorem along_of {K : PySem.W.Frag} {S N : Addr} {m : List Value} {name nm qn : Str} {bs : List Value} {sn : List Str} {sub : List Value} {ab : Bool} {col : Option Bool} {dd : Option Addr} {k0 k1 k2 k3 k5 : Option Value} {newId : String} {r : Option (Option Value)}
    (l : K.lookup S = some (excClassObj nm qn S N bs m true sn sub ab col dd k0 k1 k2 k3 k5 newId)) (i : PySem.W.findIn K (.ref S) name = r) : PySem.W.alongIn K name (.ref S :: m) = r := by
  unfold PySem.W.findIn at i
  dsimp only at i
  rw [l] at i
  exact i
/-- all that a class with __init__ is to show -/
theorem errT_mk {p : Program} {K : PySem.W.Frag} {mg : Str → Option Value} {C fI : Addr} {n f : Str} {bm : List Value} {nm qn : Str} {N : Addr} {bs : List Value} {sn : List Str} {sub : List Value} {ab : Bool} {col : Option Bool} {dd : Option Addr} {k0 k1 k2 k3 k5 : Option Value}
    {B0 newId i0 : String} {bm0 : List Value} {B i : String} {Bs : String} {bmB : List Value}
    (F : ExcBaseFacts B0 newId i0 bm0) (I : InitB B i) (SF : StoreFacts Bs bmB "object.__setattr__" "object") (Y : Bases B0 newId bm)
    (l : K.lookup C = some (excClassObj nm qn C N bs bm true sn sub ab col dd k0 k1 k2 k3 k5 newId)) (kC : PySem.W.keepIn K (.ref C) = true) (iC : PySem.W.findIn K (.ref C) "__init__" = some (some (.ref fI))) (fn : PySem.W.isFn K (.ref fI) = true)
    (sb : PySem.W.subIn K (.ref C) (.type B) = some true) (ov : PySem.W.excOver K C bmB = true) (me : PySem.W.mroIn K C (.ref C) = some true) (sa : PySem.W.findIn K (.ref C) "__setattr__" = some (some (.builtin "object.__setattr__")))
    (tk : PySem.W.takerIn K C f = some none) (hd : PySem.W.hasDictIn K C = true) (tp : PySem.W.nsIn K cStatics "thirdparty.any" = some none) (sup : mg "super" = none)
    (along : PySem.W.alongIn K "__init__" bm = some (some (.builtin i)))
    {oc : Value} {od : Option Addr} {osl : Array (Option Value)} {name qual : Str} {params : Arguments} {scope : Scope} {dV kV doc pm : Value} {an : Option Addr} {cda : Addr} {ct : Value} {cc : Addr} {msg : Str} {j : Nat} {p0 p1 p2 p3 p4 p5 p6 p7 p8 p9 : Pos}
    (lf : K.lookup fI = some ⟨oc, od, .func (PySem.W.ksFn name qual params (ebBody msg n f j p0 p1 p2 p3 p4 p5 p6 p7 p8 p9) scope dV kV doc pm an (.ref cda) ct cc), osl⟩) (cd : PySem.W.codeIn K (.ref cda) qual = true)
    (bd : ∀ (s : Shared) (x y : Value), BindsTo s (PySem.W.ksFn name qual params (ebBody msg n f j p0 p1 p2 p3 p4 p5 p6 p7 p8 p9) scope dV kV doc pm an (.ref cda) ct cc) ⟨[x, y], []⟩ [("self", x), (n, y)])
    (hp : (params.posonlyargs ++ params.args).head?.map (·.arg) = some "self") {ccl : Value} {cdd : Option Addr} {vs : Array Value} {ccs : Array (Option Value)} {file : Str} {tf : Tok} {cl : Value} {cld : Option Addr} {csl : Array (Option Value)}
    (lc : K.lookup cda = some ⟨ccl, cdd, .fields vs, ccs⟩) (hv : vs[2]? = some (.str file tf)) (hf : ((p.main.file : Str) == file) = true) (lcc : K.lookup cc = some ⟨cl, cld, .cell (some (.ref C)), csl⟩)
    (s1 : scope.names.lookup ("super" : Str) = some .globalImplicit) (s2 : scope.names.lookup ("__class__" : Str) = some .free) (s3 : scope.names.lookup ("self" : Str) = some .local) (s4 : scope.names.lookup n = some .local) (sk : scope.kind = .function)
    (sc1 : scope.isCoroutine = false) (sc2 : scope.isGenerator = false) (sc3 : ∀ x ∈ scope.names, x.2 ≠ .cell) (Z : EbOk msg n f j p0 p1 p2 p3 p4 p5 p6 p7 p8 p9) (ht : (p.main.scope.names.lookup ("super" : Str)).isSome = false) : ErrT p K mg C fI n f where
  kC := kC
  iC := iC
  fn := fn
  made := ⟨B0, newId, i0, bm0, B, i, bm, Bs, bmB, nm, qn, N, bs, true, sn, sub, ab, col, dd, k0, k1, k2, k3, k5, F, Y, l, I, by
    unfold PySem.W.ks_superIn PySem.W.clsIn
    rw [l]
    show PySem.W.alongIn K "__init__" (((Value.ref C :: bm).dropWhile (· != .ref C)).drop 1) = _
    rw [show ((Value.ref C :: bm).dropWhile (· != .ref C)).drop 1 = bm by simp [List.dropWhile_cons]]
    exact along, sb, SF, ov⟩
  me := me
  sa := sa
  tk := tk
  hd := hd
  tp := tp
  sup := sup
  df := ⟨oc, od, osl, name, qual, params, scope, dV, kV, doc, pm, an, cda, ct, cc, msg, j, p0, p1, p2, p3, p4, p5, p6, p7, p8, p9, ccl, cdd, vs, ccs, file, tf, cl, cld, csl, lf, cd, bd, hp, lc, hv, hf, lcc, s1, s2, s3, s4, sk, sc1, sc2, sc3, Z⟩
  htop := ht
end Vf

namespace Law
open PySem PySem.Spec PyProof.Rows L2 Vf
/-! ### the text -/
def topS (i : Nat) : Stmt := PySem.Challenge.pw_shelfroutes_k00_errors_and_their_classes.main.body.getD i (.Pass ⟨0, 0, 0, 0⟩)
abbrev s_dice : Stmt := topS 24
abbrev N_dice : List Str := ["_law_script", "_law_spot", "_law_cell", "_law_whole", "_law_seed"]
abbrev P_dice : List Str := ["_law_script", "_law_spot"]
theorem sc_dice : FnScope N_dice P_dice (defScope s_dice) := ⟨rfl, rfl, rfl, by decide +kernel, rfl, by decide +kernel, by decide +kernel⟩
abbrev s_roll : Stmt := topS 25
abbrev N_roll : List Str := ["_law_dice_here", "_law_many", "_law_digit", "_law_one", "_law_two"]
abbrev P_roll : List Str := ["_law_dice_here", "_law_many"]
theorem sc_roll : FnScope N_roll P_roll (defScope s_roll) := ⟨rfl, rfl, rfl, by decide +kernel, rfl, by decide +kernel, by decide +kernel⟩
abbrev s_pick : Stmt := topS 26
abbrev N_pick : List Str := ["_law_dice_here", "_law_items"]
abbrev P_pick : List Str := ["_law_dice_here", "_law_items"]
theorem sc_pick : FnScope N_pick P_pick (defScope s_pick) := ⟨rfl, rfl, rfl, by decide +kernel, rfl, by decide +kernel, by decide +kernel⟩
abbrev s_with_message : Stmt := topS 27
abbrev N_with_message : List Str := ["_law_k", "_law_text"]
abbrev P_with_message : List Str := ["_law_k", "_law_text"]
theorem sc_with_message : FnScope N_with_message P_with_message (defScope s_with_message) := ⟨rfl, rfl, rfl, by decide +kernel, rfl, by decide +kernel, by decide +kernel⟩
abbrev s_keeping : Stmt := topS 28
abbrev N_keeping : List Str := ["_law_k", "_law_kept_here"]
abbrev P_keeping : List Str := ["_law_k", "_law_kept_here"]
theorem sc_keeping : FnScope N_keeping P_keeping (defScope s_keeping) := ⟨rfl, rfl, rfl, by decide +kernel, rfl, by decide +kernel, by decide +kernel⟩
abbrev s_kept : Stmt := topS 29
abbrev N_kept : List Str := ["_law_k", "_law_found"]
abbrev P_kept : List Str := ["_law_k", "_law_found"]
theorem sc_kept : FnScope N_kept P_kept (defScope s_kept) := ⟨rfl, rfl, rfl, by decide +kernel, rfl, by decide +kernel, by decide +kernel⟩
abbrev s_kinds : Stmt := topS 30
abbrev N_kinds : List Str := ["_law_found", "_law_told"]
abbrev P_kinds : List Str := ["_law_found"]
theorem sc_kinds : FnScope N_kinds P_kinds (defScope s_kinds) := ⟨rfl, rfl, rfl, by decide +kernel, rfl, by decide +kernel, by decide +kernel⟩
abbrev s_kinds_kept : Stmt := topS 31
abbrev N_kinds_kept : List Str := ["_law_found", "_law_told"]
abbrev P_kinds_kept : List Str := ["_law_found"]
theorem sc_kinds_kept : FnScope N_kinds_kept P_kinds_kept (defScope s_kinds_kept) := ⟨rfl, rfl, rfl, by decide +kernel, rfl, by decide +kernel, by decide +kernel⟩
abbrev s_kinds_of_python : Stmt := topS 32
abbrev N_kinds_of_python : List Str := ["_law_found", "_law_told"]
abbrev P_kinds_of_python : List Str := ["_law_found"]
theorem sc_kinds_of_python : FnScope N_kinds_of_python P_kinds_of_python (defScope s_kinds_of_python) := ⟨rfl, rfl, rfl, by decide +kernel, rfl, by decide +kernel, by decide +kernel⟩
abbrev s_only : Stmt := topS 33
abbrev N_only : List Str := ["_law_some", "_law_length", "_law_at"]
abbrev P_only : List Str := ["_law_some", "_law_length"]
theorem sc_only : FnScope N_only P_only (defScope s_only) := ⟨rfl, rfl, rfl, by decide +kernel, rfl, by decide +kernel, by decide +kernel⟩
abbrev s_raised : Stmt := topS 34
abbrev N_raised : List Str := ["_law_k", "_law_kept_here"]
abbrev P_raised : List Str := ["_law_k", "_law_kept_here"]
theorem sc_raised : FnScope N_raised P_raised (defScope s_raised) := ⟨rfl, rfl, rfl, by decide +kernel, rfl, by decide +kernel, by decide +kernel⟩
abbrev s_caught : Stmt := topS 35
abbrev N_caught : List Str := ["_law_k", "_law_kept_here"]
abbrev P_caught : List Str := ["_law_k", "_law_kept_here"]
theorem sc_caught : FnScope N_caught P_caught (defScope s_caught) := ⟨rfl, rfl, rfl, by decide +kernel, rfl, by decide +kernel, by decide +kernel⟩
abbrev s_word : Stmt := topS 36
abbrev N_word : List Str := ["_law_dice_here", "_law_signs", "_law_turn"]
abbrev P_word : List Str := ["_law_dice_here"]
theorem sc_word : FnScope N_word P_word (defScope s_word) := ⟨rfl, rfl, rfl, by decide +kernel, rfl, by decide +kernel, by decide +kernel⟩
abbrev s_value : Stmt := topS 37
abbrev N_value : List Str := ["_law_dice_here", "_law_k", "_law_number"]
abbrev P_value : List Str := ["_law_dice_here", "_law_k"]
theorem sc_value : FnScope N_value P_value (defScope s_value) := ⟨rfl, rfl, rfl, by decide +kernel, rfl, by decide +kernel, by decide +kernel⟩
abbrev s_right : Stmt := topS 38
abbrev N_right : List Str := ["_law_dice_here", "_law_k", "_law_found", "_law_python", "_law_words", "_law_kept_here"]
abbrev P_right : List Str := ["_law_dice_here"]
theorem sc_right : FnScope N_right P_right (defScope s_right) := ⟨rfl, rfl, rfl, by decide +kernel, rfl, by decide +kernel, by decide +kernel⟩
abbrev s_law : Stmt := topS 39
abbrev N_law : List Str := ["_law_script", "_law_spot"]
abbrev P_law : List Str := ["_law_script"]
theorem sc_law : FnScope N_law P_law (defScope s_law) := ⟨rfl, rfl, rfl, by decide +kernel, rfl, by decide +kernel, by decide +kernel⟩
/-- where the defs stand -/
structure Adr where
  f_dice : Addr
  o_dice : FuncData
  f_roll : Addr
  o_roll : FuncData
  f_pick : Addr
  o_pick : FuncData
  f_with_message : Addr
  o_with_message : FuncData
  f_keeping : Addr
  o_keeping : FuncData
  f_kept : Addr
  o_kept : FuncData
  f_kinds : Addr
  o_kinds : FuncData
  f_kinds_kept : Addr
  o_kinds_kept : FuncData
  f_kinds_of_python : Addr
  o_kinds_of_python : FuncData
  f_only : Addr
  o_only : FuncData
  f_raised : Addr
  o_raised : FuncData
  f_caught : Addr
  o_caught : FuncData
  f_word : Addr
  o_word : FuncData
  f_value : Addr
  o_value : FuncData
  f_right : Addr
  o_right : FuncData
  f_law : Addr
  o_law : FuncData
  c_ShelfError : Addr
  c_InvalidTable : Addr
  c_InvalidRow : Addr
  c_InvalidBag : Addr
  c_InvalidQuery : Addr
  c_InvalidStore : Addr
  c_InvalidStep : Addr
  c_InvalidPlan : Addr
  c_InvalidTransition : Addr
  c_InvalidScheme : Addr
  c_InvalidEvent : Addr
  c_InvalidSnapshot : Addr
  c_InvalidTree : Addr
  c_InvalidOperation : Addr
  c_ParseError : Addr
  i_ParseError : Addr
  c_Stopped : Addr
  i_Stopped : Addr
  c_Wrong : Addr
  i_Wrong : Addr
  c_UnknownName : Addr
  i_UnknownName : Addr
  c_UnknownKey : Addr
  i_UnknownKey : Addr
  c_NothingToUndo : Addr
  i_NothingToUndo : Addr
  c_TooMany : Addr
  i_TooMany : Addr
  c_InvalidNumber : Addr
  i_InvalidNumber : Addr
/-- what the top has left -/
structure Txt (P : Program) (K : PySem.W.Frag) (mg : Str → Option Value) (A : Adr) : Prop where
  g_ShelfError : mg "ShelfError" = some (.ref A.c_ShelfError)
  k_ShelfError : ErrK K A.c_ShelfError [.type "ValueError", .type "Exception", .type "BaseException", .type "object"]
  b_ShelfError : ErrB K A.c_ShelfError
  g_InvalidTable : mg "InvalidTable" = some (.ref A.c_InvalidTable)
  k_InvalidTable : ErrK K A.c_InvalidTable [.ref A.c_ShelfError, .type "ValueError", .type "Exception", .type "BaseException", .type "object"]
  b_InvalidTable : ErrB K A.c_InvalidTable
  g_InvalidRow : mg "InvalidRow" = some (.ref A.c_InvalidRow)
  k_InvalidRow : ErrK K A.c_InvalidRow [.ref A.c_ShelfError, .type "ValueError", .type "Exception", .type "BaseException", .type "object"]
  b_InvalidRow : ErrB K A.c_InvalidRow
  g_InvalidBag : mg "InvalidBag" = some (.ref A.c_InvalidBag)
  k_InvalidBag : ErrK K A.c_InvalidBag [.ref A.c_ShelfError, .type "ValueError", .type "Exception", .type "BaseException", .type "object"]
  b_InvalidBag : ErrB K A.c_InvalidBag
  g_InvalidQuery : mg "InvalidQuery" = some (.ref A.c_InvalidQuery)
  k_InvalidQuery : ErrK K A.c_InvalidQuery [.ref A.c_ShelfError, .type "ValueError", .type "Exception", .type "BaseException", .type "object"]
  b_InvalidQuery : ErrB K A.c_InvalidQuery
  g_InvalidStore : mg "InvalidStore" = some (.ref A.c_InvalidStore)
  k_InvalidStore : ErrK K A.c_InvalidStore [.ref A.c_ShelfError, .type "ValueError", .type "Exception", .type "BaseException", .type "object"]
  b_InvalidStore : ErrB K A.c_InvalidStore
  g_InvalidStep : mg "InvalidStep" = some (.ref A.c_InvalidStep)
  k_InvalidStep : ErrK K A.c_InvalidStep [.ref A.c_ShelfError, .type "ValueError", .type "Exception", .type "BaseException", .type "object"]
  b_InvalidStep : ErrB K A.c_InvalidStep
  g_InvalidPlan : mg "InvalidPlan" = some (.ref A.c_InvalidPlan)
  k_InvalidPlan : ErrK K A.c_InvalidPlan [.ref A.c_ShelfError, .type "ValueError", .type "Exception", .type "BaseException", .type "object"]
  b_InvalidPlan : ErrB K A.c_InvalidPlan
  g_InvalidTransition : mg "InvalidTransition" = some (.ref A.c_InvalidTransition)
  k_InvalidTransition : ErrK K A.c_InvalidTransition [.ref A.c_ShelfError, .type "ValueError", .type "Exception", .type "BaseException", .type "object"]
  b_InvalidTransition : ErrB K A.c_InvalidTransition
  g_InvalidScheme : mg "InvalidScheme" = some (.ref A.c_InvalidScheme)
  k_InvalidScheme : ErrK K A.c_InvalidScheme [.ref A.c_ShelfError, .type "ValueError", .type "Exception", .type "BaseException", .type "object"]
  b_InvalidScheme : ErrB K A.c_InvalidScheme
  g_InvalidEvent : mg "InvalidEvent" = some (.ref A.c_InvalidEvent)
  k_InvalidEvent : ErrK K A.c_InvalidEvent [.ref A.c_ShelfError, .type "ValueError", .type "Exception", .type "BaseException", .type "object"]
  b_InvalidEvent : ErrB K A.c_InvalidEvent
  g_InvalidSnapshot : mg "InvalidSnapshot" = some (.ref A.c_InvalidSnapshot)
  k_InvalidSnapshot : ErrK K A.c_InvalidSnapshot [.ref A.c_ShelfError, .type "ValueError", .type "Exception", .type "BaseException", .type "object"]
  b_InvalidSnapshot : ErrB K A.c_InvalidSnapshot
  g_InvalidTree : mg "InvalidTree" = some (.ref A.c_InvalidTree)
  k_InvalidTree : ErrK K A.c_InvalidTree [.ref A.c_ShelfError, .type "ValueError", .type "Exception", .type "BaseException", .type "object"]
  b_InvalidTree : ErrB K A.c_InvalidTree
  g_InvalidOperation : mg "InvalidOperation" = some (.ref A.c_InvalidOperation)
  k_InvalidOperation : ErrK K A.c_InvalidOperation [.ref A.c_ShelfError, .type "ValueError", .type "Exception", .type "BaseException", .type "object"]
  b_InvalidOperation : ErrB K A.c_InvalidOperation
  g_ParseError : mg "ParseError" = some (.ref A.c_ParseError)
  k_ParseError : ErrK K A.c_ParseError [.ref A.c_ShelfError, .type "ValueError", .type "Exception", .type "BaseException", .type "object"]
  t_ParseError : ErrT P K mg A.c_ParseError A.i_ParseError "line" "line"
  n_ParseError : PySem.W.findIn K (.ref A.c_ParseError) "line" = some none
  g_Stopped : mg "Stopped" = some (.ref A.c_Stopped)
  k_Stopped : ErrK K A.c_Stopped [.ref A.c_ShelfError, .type "ValueError", .type "Exception", .type "BaseException", .type "object"]
  t_Stopped : ErrT P K mg A.c_Stopped A.i_Stopped "index" "index"
  n_Stopped : PySem.W.findIn K (.ref A.c_Stopped) "index" = some none
  g_Wrong : mg "Wrong" = some (.ref A.c_Wrong)
  k_Wrong : ErrK K A.c_Wrong [.ref A.c_ShelfError, .type "ValueError", .type "Exception", .type "BaseException", .type "object"]
  t_Wrong : ErrT P K mg A.c_Wrong A.i_Wrong "certificate" "certificate"
  n_Wrong : PySem.W.findIn K (.ref A.c_Wrong) "certificate" = some none
  g_UnknownName : mg "UnknownName" = some (.ref A.c_UnknownName)
  k_UnknownName : ErrK K A.c_UnknownName [.type "KeyError", .type "LookupError", .type "Exception", .type "BaseException", .type "object"]
  t_UnknownName : ErrT P K mg A.c_UnknownName A.i_UnknownName "name" "name"
  n_UnknownName : PySem.W.findIn K (.ref A.c_UnknownName) "name" = some none
  g_UnknownKey : mg "UnknownKey" = some (.ref A.c_UnknownKey)
  k_UnknownKey : ErrK K A.c_UnknownKey [.type "IndexError", .type "LookupError", .type "Exception", .type "BaseException", .type "object"]
  t_UnknownKey : ErrT P K mg A.c_UnknownKey A.i_UnknownKey "key" "key"
  n_UnknownKey : PySem.W.findIn K (.ref A.c_UnknownKey) "key" = some none
  g_NothingToUndo : mg "NothingToUndo" = some (.ref A.c_NothingToUndo)
  k_NothingToUndo : ErrK K A.c_NothingToUndo [.type "LookupError", .type "Exception", .type "BaseException", .type "object"]
  t_NothingToUndo : ErrT P K mg A.c_NothingToUndo A.i_NothingToUndo "many" "many"
  n_NothingToUndo : PySem.W.findIn K (.ref A.c_NothingToUndo) "many" = some none
  g_TooMany : mg "TooMany" = some (.ref A.c_TooMany)
  k_TooMany : ErrK K A.c_TooMany [.type "OverflowError", .type "ArithmeticError", .type "Exception", .type "BaseException", .type "object"]
  t_TooMany : ErrT P K mg A.c_TooMany A.i_TooMany "limit" "limit"
  n_TooMany : PySem.W.findIn K (.ref A.c_TooMany) "limit" = some none
  g_InvalidNumber : mg "InvalidNumber" = some (.ref A.c_InvalidNumber)
  k_InvalidNumber : ErrK K A.c_InvalidNumber [.type "RuntimeError", .type "Exception", .type "BaseException", .type "object"]
  t_InvalidNumber : ErrT P K mg A.c_InvalidNumber A.i_InvalidNumber "value" "value"
  n_InvalidNumber : PySem.W.findIn K (.ref A.c_InvalidNumber) "value" = some none
  nd : [A.c_ShelfError, A.c_InvalidTable, A.c_InvalidRow, A.c_InvalidBag, A.c_InvalidQuery, A.c_InvalidStore, A.c_InvalidStep, A.c_InvalidPlan, A.c_InvalidTransition, A.c_InvalidScheme, A.c_InvalidEvent, A.c_InvalidSnapshot, A.c_InvalidTree, A.c_InvalidOperation, A.c_ParseError, A.c_Stopped, A.c_Wrong, A.c_UnknownName, A.c_UnknownKey, A.c_NothingToUndo, A.c_TooMany, A.c_InvalidNumber].Nodup
  d_dice : DefAt K mg "_law_dice" s_dice P_dice A.f_dice A.o_dice
  d_roll : DefAt K mg "_law_roll" s_roll P_roll A.f_roll A.o_roll
  d_pick : DefAt K mg "_law_pick" s_pick P_pick A.f_pick A.o_pick
  d_with_message : DefAt K mg "_law_with_message" s_with_message P_with_message A.f_with_message A.o_with_message
  d_keeping : DefAt K mg "_law_keeping" s_keeping P_keeping A.f_keeping A.o_keeping
  d_kept : DefAt K mg "_law_kept" s_kept P_kept A.f_kept A.o_kept
  d_kinds : DefAt K mg "_law_kinds" s_kinds P_kinds A.f_kinds A.o_kinds
  d_kinds_kept : DefAt K mg "_law_kinds_kept" s_kinds_kept P_kinds_kept A.f_kinds_kept A.o_kinds_kept
  d_kinds_of_python : DefAt K mg "_law_kinds_of_python" s_kinds_of_python P_kinds_of_python A.f_kinds_of_python A.o_kinds_of_python
  d_only : DefAt K mg "_law_only" s_only P_only A.f_only A.o_only
  d_raised : DefAt K mg "_law_raised" s_raised P_raised A.f_raised A.o_raised
  d_caught : DefAt K mg "_law_caught" s_caught P_caught A.f_caught A.o_caught
  d_word : DefAt K mg "_law_word" s_word P_word A.f_word A.o_word
  d_value : DefAt K mg "_law_value" s_value P_value A.f_value A.o_value
  d_right : DefAt K mg "_law_right" s_right P_right A.f_right A.o_right
  d_law : DefAt K mg "law" s_law P_law A.f_law A.o_law
  z_ArithmeticError : mg "ArithmeticError" = none
  z_IndexError : mg "IndexError" = none
  z_KeyError : mg "KeyError" = none
  z_LookupError : mg "LookupError" = none
  z_OverflowError : mg "OverflowError" = none
  z_RuntimeError : mg "RuntimeError" = none
  z_ValueError : mg "ValueError" = none
  z_abs : mg "abs" = none
  z_int : mg "int" = none
  z_isinstance : mg "isinstance" = none
  z_len : mg "len" = none
  z_max : mg "max" = none
  z_min : mg "min" = none
  z_range : mg "range" = none
  z_repr : mg "repr" = none
section
variable {P : Program} {w : World} {K : PySem.W.Frag} {mg : Str → Option Value} {base : Heap}
def Sm (d : PyData) : Prop := ∀ z, d = .str z → z.length ≤ 1000
theorem gName_app {i : Nat} {v : V} {σ : L2.St} {H : Hp} {Q : L2.St → Hp → Prop} : gName i v σ H Q = Q (σ.set i (some v)) H := rfl
theorem ite_b {b : Bool} {A B : Prop} (h1 : b = true → A) (h2 : b = false → B) : if b = true then A else B := by
  cases b with
  | true => exact h1 rfl
  | false => exact h2 rfl
theorem q_is {Q : VK} {H : Hp} {a b : Bool} (e : a = b) (q : Q (.bl a) H) : Q (.bl b) H := e ▸ q
theorem not_t {b : Bool} (h : (!b) = true) : b = false := by cases b <;> first | rfl | cases h
theorem not_f {b : Bool} (h : (!b) = false) : b = true := by cases b <;> first | rfl | cases h
theorem all_id {α : Type} (l : List α) (f : α → Bool) : (l.map f).all id = l.all f := by
  induction l with
  | nil => rfl
  | cons a r ih => rw [List.map_cons, List.all_cons, List.all_cons, ih] <;> rfl
theorem mul_ok {i j : Int} (a b : Nat) (ha : i.natAbs < 2 ^ a) (hb : j.natAbs < 2 ^ b) (h0 : 0 < a ∧ 0 < b ∧ a + b ≤ 1000000) : CMulW i j := wide_mul ha hb h0.1 h0.2.1 h0.2.2
theorem mod_lt (i : Int) {m : Int} (n : Nat) (h : 0 < m) (hm : m ≤ 2 ^ n) : (i % m).natAbs < 2 ^ n := by
  have h1 := Int.emod_nonneg i (show m ≠ 0 by omega)
  have h2 := Int.emod_lt_of_pos i h
  have h3 : ((i % m).natAbs : Int) = i % m := Int.natAbs_of_nonneg h1
  have h4 : ((2 ^ n : Nat) : Int) = 2 ^ n := by push_cast; rfl
  generalize (2 : Nat) ^ n = N at h4 ⊢
  generalize (2 : Int) ^ n = M at h4 hm
  omega
theorem if_cell {K : PySem.W.Frag} {σ : L2.St} {H : Hp} {Q : VK} {l : Addr} {ns : List Int} {i : Nat} (h0 : σ[0]? = some (some (.ref l))) (h1 : σ[1]? = some (some (.int (i : Int)))) (hS : SqL K H l (ns.map V.int)) (hi : i < 1000) (k : ∀ c : Int, Q (.int c) H) :
    if decide ((i : Int) < ((ns.map V.int).length : Int)) = true then tOp (rIxL K) (tVar 0) (tVar 1) σ H Q
    else tOp (rI0 fun i j => .int (i + j)) (tOp (rI CMulW fun i j => .int (i * j)) (tC (.int 29)) (tVar 1)) (tC (.int 7)) σ H Q := by
  by_cases hlt : i < ns.length
  · have e : (ns.map V.int)[i]? = some (.int ns[i]) := by
      rw [List.getElem?_map, List.getElem?_eq_getElem hlt]
      rfl
    refine ite_b (fun _ => ⟨_, h0, _, h1, l, _, _, _, rfl, rfl, hS, atI_nat e, k _⟩) (fun z => ?_)
    rw [List.length_map] at z
    have := of_decide_eq_false z
    omega
  · refine ite_b (fun z => ?_) (fun _ => ⟨_, h1, _, _, rfl, rfl, mul_ok 10 10 (by decide) (by omega) (by decide), _, _, rfl, rfl, k _⟩)
    rw [List.length_map] at z
    have := of_decide_eq_true z
    omega
theorem b2i_lt (k : Bool) : (if k then 1 else 0 : Int).natAbs < 2 ^ 1 := by cases k <;> decide
theorem andV_b {ta tb : TE} {σ : L2.St} {H : Hp} {Q : VK} (a b : Bool) (ha : ∀ R : VK, R (.bl a) H → ta σ H R) (hb : a = true → ∀ R : VK, R (.bl b) H → tb σ H R) (q : Q (.bl (a && b)) H) : tAndV ta tb σ H Q := by
  refine ha _ ⟨a, rfl, ?_⟩
  cases a with
  | true => exact hb rfl Q q
  | false => exact q
theorem rb {m : Int} (h : m.natAbs < 2 ^ 100) : m.natAbs < 2 ^ 8000 := Nat.lt_trans h (Nat.pow_lt_pow_right (by decide) (by decide))
/-! ### data that are told by repr -/
structure Am (d : PyData) : Prop where
  lv : d.leavesShort 120 = true
  bk : d.bulk ≤ 10
  sh : d.showable = true
  dp : d.depth ≤ 5
  nd : d.hasDict = true → noList d = true
  sm : Sm d
structure Good (d : PyData) : Prop where
  tl : Tells d
  sm : Sm d
/-- neither a dict nor a list in it -/
structure Fl (d : PyData) : Prop where
  am : Am d
  hd : d.hasDict = false
  nl : noList d = true
abbrev Big : Nat := 10 ^ 100
theorem fl_int {i : Int} (h : i.natAbs < Big) : Fl (.int i) := by
  refine ⟨⟨?_, Nat.zero_le _, ?_, Nat.zero_le _, (fun z => nomatch z), (fun z e => nomatch e)⟩, rfl, rfl⟩
  · have e := int_text_length_le10 (k := 100) (by decide) h
    simp only [PyData.leavesShort, decide_eq_true_eq]
    show (Str.ofString (toString i)).length ≤ 120
    rw [PySem.ofString_length]
    omega
  · simp only [PyData.showable, decide_eq_true_eq]
    refine log2_small (Nat.lt_trans h ?_)
    decide +kernel
theorem fl_none : Fl .none := ⟨⟨rfl, Nat.zero_le _, rfl, Nat.zero_le _, (fun z => nomatch z), (fun z e => nomatch e)⟩, rfl, rfl⟩
theorem lv_all {n : Nat} : ∀ {as : List PyData}, (∀ a ∈ as, a.leavesShort n = true) → PyData.leavesShortAll n as = true
  | [], _ => rfl
  | a :: r, h => by
    simp only [PyData.leavesShortAll, Bool.and_eq_true]
    exact ⟨h a List.mem_cons_self, lv_all fun b hb => h b (List.mem_cons_of_mem _ hb)⟩
theorem sh_all : ∀ {as : List PyData}, (∀ a ∈ as, a.showable = true) → PyData.showableAll as = true
  | [], _ => rfl
  | a :: r, h => by
    simp only [PyData.showableAll, Bool.and_eq_true]
    exact ⟨h a List.mem_cons_self, sh_all fun b hb => h b (List.mem_cons_of_mem _ hb)⟩
theorem bk_all {n : Nat} : ∀ {as : List PyData}, (∀ a ∈ as, a.bulk ≤ n) → PyData.bulkAll as ≤ (n + 1) * as.length
  | [], _ => Nat.zero_le _
  | a :: r, h => by
    have h1 := h a List.mem_cons_self
    have h2 := bk_all fun b hb => h b (List.mem_cons_of_mem _ hb)
    simp only [PyData.bulkAll, List.length_cons, Nat.mul_add, Nat.mul_one]
    omega
theorem dp_all {n : Nat} : ∀ {as : List PyData}, (∀ a ∈ as, a.depth ≤ n) → PyData.depthAll as ≤ n
  | [], _ => Nat.zero_le _
  | a :: r, h => by
    have h1 := h a List.mem_cons_self
    have h2 := dp_all fun b hb => h b (List.mem_cons_of_mem _ hb)
    simp only [PyData.depthAll]
    omega
theorem nl_all : ∀ {as : List PyData}, (∀ a ∈ as, noList a = true) → noListA as = true
  | [], _ => rfl
  | a :: r, h => by
    simp only [noListA, Bool.and_eq_true]
    exact ⟨h a List.mem_cons_self, nl_all fun b hb => h b (List.mem_cons_of_mem _ hb)⟩
theorem hd_all : ∀ {as : List PyData}, (∀ a ∈ as, a.hasDict = false) → PyData.hasDictAll as = false
  | [], _ => rfl
  | a :: r, h => by
    simp only [PyData.hasDictAll, Bool.or_eq_false_iff]
    exact ⟨h a List.mem_cons_self, hd_all fun b hb => h b (List.mem_cons_of_mem _ hb)⟩
theorem tells_seq (d : PyData) (as : List PyData) (hl : as.length ≤ 100) (e1 : d.leavesShort 120 = PyData.leavesShortAll 120 as) (e2 : d.bulk = PyData.bulkAll as) (e3 : d.showable = PyData.showableAll as)
    (e4 : d.depth = PyData.depthAll as + 1) (nd : d.hasDict = true → noList d = true) (ha : ∀ a ∈ as, Am a) : Tells d := by
  refine ⟨e3.trans (sh_all fun a h => (ha a h).sh), nd, ?_, ?_⟩
  · have := dp_all fun a h => (ha a h).dp
    omega
  · have b := bk_all fun a h => (ha a h).bk
    have s := PyData.shown_le_bulk 120 (by decide) d (e1.trans (lv_all fun a h => (ha a h).lv))
    have m : (10 + 1) * as.length ≤ 1100 := by omega
    have m2 : (120 + 2) * d.bulk ≤ 122 * 1100 := Nat.mul_le_mul (Nat.le_refl _) (by omega)
    refine Nat.le_trans s (Nat.le_trans (show _ ≤ 200000 by omega) (by decide))
theorem good_am {d : PyData} (h : Am d) : Good d := by
  refine ⟨⟨h.sh, h.nd, Nat.le_trans h.dp (by decide), ?_⟩, h.sm⟩
  have s := PyData.shown_le_bulk 120 (by decide) d h.lv
  have b := h.bk
  have m2 : (120 + 2) * d.bulk ≤ 122 * 10 := Nat.mul_le_mul (Nat.le_refl _) b
  refine Nat.le_trans s (Nat.le_trans (show _ ≤ 200000 by omega) (by decide))
theorem good_tup {as : List PyData} (ha : ∀ a ∈ as, Am a) (hl : as.length ≤ 100) (nd : PyData.hasDictAll as = true → noListA as = true) : Good (.tuple as) :=
  ⟨tells_seq _ as hl (by simp only [PyData.leavesShort]) (by simp only [PyData.bulk]) (by simp only [PyData.showable]) (by simp only [PyData.depth]) (by simpa only [PyData.hasDict, noList] using nd) ha, fun z e => nomatch e⟩
theorem good_lst {as : List PyData} (ha : ∀ a ∈ as, Am a) (hl : as.length ≤ 100) (nd : PyData.hasDictAll as = false) : Good (.list as) :=
  ⟨tells_seq _ as hl (by simp only [PyData.leavesShort]) (by simp only [PyData.bulk]) (by simp only [PyData.showable]) (by simp only [PyData.depth]) (fun z => by simp only [PyData.hasDict] at z; rw [nd] at z; cases z) ha, fun z e => nomatch e⟩
theorem good_fl {as : List PyData} (ha : ∀ a ∈ as, Fl a) (hl : as.length ≤ 100) : Good (.tuple as) := good_tup (fun a h => (ha a h).am) hl fun _ => nl_all fun a h => (ha a h).nl
theorem good_put {as : List PyData} {d : PyData} (k j : Nat) (ha : ∀ a ∈ as, Fl a) (hd : Am d) (hl : as.length ≤ 40) : Good (.tuple (as.take k ++ d :: as.drop j)) := by
  have mem : ∀ a ∈ as.take k ++ d :: as.drop j, a = d ∨ Fl a := fun a h => by
    rcases List.mem_append.mp h with h | h
    · exact .inr (ha a (List.mem_of_mem_take h))
    · rcases List.mem_cons.mp h with h | h
      · exact .inl h
      · exact .inr (ha a (List.mem_of_mem_drop h))
  refine good_tup (fun a h => ?_) ?_ fun z => ?_
  · rcases mem a h with e | e
    · rw [e]
      exact hd
    · exact e.am
  · rw [List.length_append, List.length_cons, List.length_take, List.length_drop]
    omega
  · cases hb : d.hasDict with
    | true =>
      have n := hd.nd hb
      refine nl_all fun a h => ?_
      rcases mem a h with e | e
      · rw [e]
        exact n
      · exact e.nl
    | false =>
      have f := hd_all (as := as.take k ++ d :: as.drop j) fun a h => by
        rcases mem a h with e | e
        · rw [e]
          exact hb
        · exact e.hd
      rw [f] at z
      cases z
def amB (d : PyData) : Bool := d.leavesShort 120 && (decide (d.bulk ≤ 10) && (d.showable && (decide (d.depth ≤ 5) && ((!d.hasDict || noList d) && match d with | .str z => decide (z.length ≤ 1000) | _ => true))))
theorem am_of {d : PyData} (h : amB d = true) : Am d := by
  unfold amB at h
  simp only [Bool.and_eq_true, decide_eq_true_eq] at h
  obtain ⟨h1, h2, h3, h4, h5, h6⟩ := h
  refine ⟨h1, h2, h3, h4, fun z => ?_, fun z e => ?_⟩
  · rw [z] at h5
    simpa using h5
  · subst e
    simpa using h6
theorem nb {i : Int} (h : i.natAbs < 1000) : i.natAbs < Big := Nat.lt_trans h (by decide +kernel)
theorem dq_mem {H : Hp} : ∀ {vs : List V} {ds : List PyData} {v : V}, DqAll H vs ds → v ∈ vs → ∃ d, d ∈ ds ∧ Dq H v d
  | _, _, _, .nil, h => nomatch h
  | _, _, v, .cons (d := d) q r, h => by
    rcases List.mem_cons.mp h with e | e
    · rw [e]
      exact ⟨d, List.mem_cons_self, q⟩
    · obtain ⟨d2, m, q2⟩ := dq_mem r e
      exact ⟨d2, List.mem_cons_of_mem _ m, q2⟩
theorem slA {K : PySem.W.Frag} {H : Hp} {Q : VK} {a : Addr} {xs : List V} {lo hi : Option Int} (h : H a = some (.tup xs)) (k : ∀ (p : Addr) (H2 : Hp), Ext H H2 → H2 p = some (.tup (cutV xs lo hi)) → (p = a ∨ H p = none) → Q (.ref p) H2) : rSlA K (.ref a) lo hi H Q := by
  refine ⟨a, xs, rfl, SqT.of h, fun w => k a H Ext.rfl' ?_ (.inl rfl), fun _ p hp => k p _ (Ext.nw hp) upd_same (.inr hp)⟩
  have e : cutV xs lo hi = xs := by
    unfold cutV
    rw [w.1, w.2, List.drop_zero, Nat.sub_zero, List.take_length]
  rw [e]
  exact h
theorem catA {K : PySem.W.Frag} {H : Hp} {Q : VK} {a b : Addr} {xs ys : List V} (h1 : H a = some (.tup xs)) (h2 : H b = some (.tup ys)) (hz : xs.length + ys.length ≤ 100000)
    (k : ∀ (p : Addr) (H2 : Hp), Ext H H2 → H2 p = some (.tup (xs ++ ys)) → (p = a ∨ p = b ∨ H p = none) → Q (.ref p) H2) : rCatA K (.ref a) (.ref b) H Q := by
  refine ⟨a, b, xs, ys, rfl, rfl, SqT.of h1, SqT.of h2, le_line hz, fun e => k b H Ext.rfl' ?_ (.inr (.inl rfl)), fun _ e => k a H Ext.rfl' ?_ (.inl rfl), fun _ _ p hp => k p _ (Ext.nw hp) upd_same (.inr (.inr hp))⟩
  · rw [e, List.nil_append]
    exact h2
  · rw [e, List.append_nil]
    exact h1
theorem cut_take (xs : List V) {r : Int} (h0 : 0 ≤ r) : ∃ k, cutV xs none (some r) = xs.take k := by
  unfold cutV
  exact ⟨_, by rw [HT.sIx_none, List.drop_zero]⟩
theorem cut_drop (xs : List V) {r : Int} : ∃ k, cutV xs (some r) none = xs.drop k := by
  refine ⟨HT.sIx xs.length 0 (some r), ?_⟩
  unfold cutV
  rw [HT.sIx_none]
  exact List.take_of_length_le (by rw [List.length_drop]; exact Nat.le_refl _)
theorem tup_ne {H : Hp} {D c : Addr} {xs : List V} (dc : Dc H D) (h : H c = some (.tup xs)) : c ≠ D := fun e => by
  obtain ⟨x, y, z, q⟩ := dc
  rw [← e, h] at q
  cases q
theorem lst_len {H : Hp} {D c : Addr} {xs : List V} (dc : Dc H D) (h : H c = some (.lst xs)) (n : xs.length ≠ 3) : c ≠ D := fun e => by
  obtain ⟨x, y, z, q⟩ := dc
  rw [← e, h] at q
  cases q
  exact n rfl
def b2i (b : Bool) : Int := if b then 1 else 0
theorem mem_ints {v : V} : ∀ {ns : List Int}, v ∈ ns.map V.int → ∃ n, n ∈ ns ∧ v = .int n
  | ns, h => by
    obtain ⟨n, hn, e⟩ := List.mem_map.mp h
    exact ⟨n, hn, e.symm⟩
theorem ints_of {P : Int → Prop} : ∀ {xs : List V}, (∀ x ∈ xs, ∃ i, x = .int i ∧ P i) → ∃ ns : List Int, xs = ns.map V.int ∧ ∀ n ∈ ns, P n
  | [], _ => ⟨[], rfl, fun n h => nomatch h⟩
  | x :: r, h => by
    obtain ⟨i, rfl, p⟩ := h x List.mem_cons_self
    obtain ⟨ns, e, q⟩ := ints_of fun y hy => h y (List.mem_cons_of_mem _ hy)
    refine ⟨i :: ns, by rw [e]; rfl, fun n hn => ?_⟩
    rcases List.mem_cons.mp hn with z | z
    · rw [z]
      exact p
    · exact q n z
/-- a short text of plain signs -/
structure Wd (n : Nat) (z : Str) : Prop where
  ln : z.length ≤ n
  cs : ∀ c ∈ z.cps.toList, c < 1000
theorem ln_eq (z : Str) : z.length = z.cps.toList.length := by simp [Str.length]
theorem wd_app {a b : Str} {n m : Nat} (h1 : Wd n a) (h2 : Wd m b) : Wd (n + m) (a ++ b) := by
  have e : (a ++ b).cps.toList = a.cps.toList ++ b.cps.toList := by
    show (a.cps ++ b.cps).toList = _
    rw [Array.toList_append]
  refine ⟨?_, fun c hc => ?_⟩
  · rw [ln_eq, e, List.length_append, ← ln_eq, ← ln_eq]
    exact Nat.add_le_add h1.ln h2.ln
  · rw [e] at hc
    exact (List.mem_append.mp hc).elim (h1.cs c) (h2.cs c)
theorem wd_cut {z : Str} {n : Nat} (h : Wd n z) (lo hi : Option Int) : Wd n (cutS z lo hi) := by
  have e : (cutS z lo hi).cps.toList = (z.cps.toList.drop (HT.sIx z.length 0 lo)).take (HT.sIx z.length z.length hi - HT.sIx z.length 0 lo) := rfl
  refine ⟨?_, fun c hc => ?_⟩
  · rw [ln_eq, e, List.length_take, List.length_drop, ← ln_eq]
    have := h.ln
    omega
  · rw [e] at hc
    exact h.cs c (List.mem_of_mem_drop (List.mem_of_mem_take hc))
theorem wd_one {c : Nat} (h : c < 1000) : Wd 1 ⟨#[c]⟩ := ⟨Nat.le_refl _, fun d hd => by
  have e : d = c := by simpa using hd
  rw [e]
  exact h⟩
theorem wd_join : ∀ {ys : List Str}, (∀ y ∈ ys, Wd 1 y) → Wd ys.length (Str.join (Str.ofString "") ys)
  | [], _ => ⟨Nat.le_refl _, fun c hc => by simp [Str.join, Str.empty] at hc⟩
  | [y], h => h y List.mem_cons_self
  | x :: y :: r, h => by
    have h1 := h x List.mem_cons_self
    have h2 := wd_join (ys := y :: r) fun z hz => h z (List.mem_cons_of_mem _ hz)
    have e0 : (Str.ofString "").cps.toList = [] := by decide +kernel
    have h0 : Wd 0 (Str.ofString "") := ⟨Nat.le_refl _, fun c hc => by rw [e0] at hc; cases hc⟩
    have h3 := wd_app (wd_app h1 h0) h2
    have e : (x :: y :: r).length = 1 + 0 + (y :: r).length := by
      rw [List.length_cons]
      omega
    rw [e]
    exact h3
theorem wd_good {z : Str} (h : Wd 100 z) : Good (.str z) := by
  have lv : (PyData.str z).leavesShort 120 = true := by
    simp only [PyData.leavesShort, List.all_eq_true, decide_eq_true_eq]
    intro c hc
    exact Nat.lt_trans (h.cs c hc) (by decide)
  have hl := h.ln
  refine ⟨⟨rfl, (fun z => nomatch z), Nat.zero_le _, ?_⟩, fun y e => by cases e; omega⟩
  have s := PyData.shown_le_bulk 120 (by decide) _ lv
  have b : (PyData.str z).bulk ≤ 100 := hl
  have m2 : (120 + 2) * (PyData.str z).bulk ≤ 122 * 100 := Nat.mul_le_mul (Nat.le_refl _) b
  refine Nat.le_trans s (Nat.le_trans (show _ ≤ 200000 by omega) (by decide))
theorem strs_of : ∀ {xs : List V}, (∀ x ∈ xs, ∃ c, x = V.str ⟨#[c]⟩ ∧ c < 1000) → ∃ ys : List Str, xs = ys.map V.str ∧ (∀ y ∈ ys, Wd 1 y) ∧ (ys.map (·.length)).sum = ys.length
  | [], _ => ⟨[], rfl, (fun n h => nomatch h), rfl⟩
  | x :: r, h => by
    obtain ⟨c, rfl, p⟩ := h x List.mem_cons_self
    obtain ⟨ys, e, q, s⟩ := strs_of fun y hy => h y (List.mem_cons_of_mem _ hy)
    refine ⟨⟨#[c]⟩ :: ys, by rw [e]; rfl, fun y hy => ?_, ?_⟩
    · rcases List.mem_cons.mp hy with z | z
      · rw [z]
        exact wd_one p
      · exact q y z
    · rw [List.map_cons, List.sum_cons, s, List.length_cons]
      show 1 + ys.length = ys.length + 1
      omega
theorem sign_at {z : Str} (h : z.cps.toList.all (fun c => decide (c < 1000)) = true) {r : Int} (h0 : 0 ≤ r) (h1 : r < z.length) : ∃ c, atI z.cps.toList r = some c ∧ c < 1000 := by
  obtain ⟨j, rfl⟩ := Int.eq_ofNat_of_zero_le h0
  have h2 : j < z.cps.toList.length := by
    rw [← ln_eq]
    omega
  exact ⟨z.cps.toList[j], atI_nat (List.getElem?_eq_getElem h2), of_decide_eq_true (List.all_eq_true.mp h _ (List.getElem_mem h2))⟩
abbrev oddS : Str := Str.ofString "ABCXYZ0123456789 _-.,:;!?'/()[]{}<>=+*&@#^~|\n\n"
theorem _root_.Vf.Dc.ne' {H : Hp} {D c : Addr} {xs : List V} (dc : Dc H D) (h : H c = some (.tup xs)) : c ≠ D := tup_ne dc h
theorem dq_ref {H : Hp} {v : V} {ds : List PyData} (h : Dq H v (.tuple ds)) : ∃ p, v = .ref p := by
  cases h with
  | tup h1 h2 => exact ⟨_, rfl⟩

/-! ### promises -/
def clsA (A : Adr) : Nat → Addr
  | 0 => A.c_InvalidTable
  | 1 => A.c_InvalidRow
  | 2 => A.c_InvalidBag
  | 3 => A.c_InvalidQuery
  | 4 => A.c_InvalidStore
  | 5 => A.c_InvalidStep
  | 6 => A.c_InvalidPlan
  | 7 => A.c_InvalidTransition
  | 8 => A.c_InvalidScheme
  | 9 => A.c_InvalidEvent
  | 10 => A.c_InvalidSnapshot
  | 11 => A.c_InvalidTree
  | 12 => A.c_InvalidOperation
  | _ => A.c_ShelfError
def clsB (A : Adr) : Nat → Addr
  | 0 => A.c_ParseError
  | 1 => A.c_Stopped
  | 2 => A.c_Wrong
  | 3 => A.c_UnknownName
  | 4 => A.c_UnknownKey
  | 5 => A.c_NothingToUndo
  | 6 => A.c_TooMany
  | _ => A.c_InvalidNumber
def fldB : Nat → Str
  | 0 => "line"
  | 1 => "index"
  | 2 => "certificate"
  | 3 => "name"
  | 4 => "key"
  | 5 => "many"
  | 6 => "limit"
  | _ => "value"
def spMsg (A : Adr) : Sp := fun vs H Q _ => ∃ (k : Nat) (t : V), vs = [.int (k : Int), t] ∧ ∀ a, H a = none → Q (.ref a) (upd H a (ExO (.ref (clsA A k)) a))
def spKeep (A : Adr) : Sp := fun vs H Q _ => ∃ (k : Nat) (v : V), vs = [.int (k : Int), v] ∧ ∀ a dx, H a = none → H dx = none → dx ≠ a → Q (.ref a) (upd (upd H dx (.xd [(fldB k, v)])) a (exo a (clsB A k) (some dx)))
def spKept (A : Adr) : Sp := fun vs H Q _ => ∃ (k : Nat) (a dx : Addr) (v : V), vs = [.int (k : Int), .ref a] ∧ H a = some (exo a (clsB A k) (some dx)) ∧ H dx = some (.xd [(fldB k, v)]) ∧ Q v H
def spKinds (K : PySem.W.Frag) (cs : List Value) : Sp := fun vs H Q _ => ∃ (a D : Addr) (m : List Value), vs = [.ref a] ∧ ErrAt H a D ∧ ErrK K D m ∧ ∀ v H2, Ext H H2 → Dq H2 v (.list (cs.map fun c => .bool ((Value.ref D :: m).contains c))) → Q v H2
theorem errAt_ext {H H2 : Hp} {a D : Addr} (h : ErrAt H a D) (e : Ext H H2) : ErrAt H2 a D := by
  cases h with
  | bare x => exact .bare (e _ _ x)
  | held dx fs x y => exact .held dx fs (e _ _ x) (e _ _ y)
theorem kit_type1 {K : PySem.W.Frag} {n : String} {D : Addr} {m : List Value} (T : ErrK K D m) (hn : PySem.W.kitMeta n = true) : PySem.W.kitOne K (.ref D) (.type n) = some ((Value.ref D :: m).contains (.type n)) := by
  rw [kit_type T hn, List.contains_cons]
  rfl
theorem evd_isErr {K : PySem.W.Frag} {σ : L2.St} {H : Hp} {a D : Addr} {m : List Value} {c : V} {u : Value} {b : Bool} (h0 : σ[0]? = some (some (.ref a))) (ea : ErrAt H a D) (k : ErrK K D m) (cv : ClsV c u) (kt : PySem.W.kitOne K (.ref D) u = some b) :
    EvD (tCB (rIsErr K) (tCons (tVar 0) (tCons (tC c) tNil))) σ H (.bool b) := fun H1 e Q q => ⟨_, h0, a, D, m, _, _, _, rfl, errAt_ext ea e, k, cv, kt, q _ H1 Ext.rfl' (.bl _)⟩
def csA (A : Adr) : List Value := [.ref A.c_InvalidTable, .ref A.c_InvalidRow, .ref A.c_InvalidBag, .ref A.c_InvalidQuery, .ref A.c_InvalidStore, .ref A.c_InvalidStep, .ref A.c_InvalidPlan, .ref A.c_InvalidTransition, .ref A.c_InvalidScheme, .ref A.c_InvalidEvent, .ref A.c_InvalidSnapshot, .ref A.c_InvalidTree, .ref A.c_InvalidOperation, .ref A.c_ShelfError]
def csB (A : Adr) : List Value := [.ref A.c_ParseError, .ref A.c_Stopped, .ref A.c_Wrong, .ref A.c_UnknownName, .ref A.c_UnknownKey, .ref A.c_NothingToUndo, .ref A.c_TooMany, .ref A.c_InvalidNumber]
def csP : List Value := [.type "ValueError", .type "KeyError", .type "IndexError", .type "LookupError", .type "OverflowError", .type "ArithmeticError", .type "RuntimeError"]
theorem k_ne {k n : Nat} (e : decide (V.int (k : Int) = V.int (n : Int)) = false) : k ≠ n := fun h => absurd (by rw [h]) (of_decide_eq_false e)
theorem k_eq {k n : Nat} (e : decide (V.int (k : Int) = V.int (n : Int)) = true) : k = n := by
  have := V.int.inj (of_decide_eq_true e)
  omega
theorem clsA_last {A : Adr} {k : Nat} (h : 13 ≤ k) : clsA A k = A.c_ShelfError := by
  unfold clsA
  split <;> first | omega | rfl
theorem clsB_last {A : Adr} {k : Nat} (h : 7 ≤ k) : clsB A k = A.c_InvalidNumber := by
  unfold clsB
  split <;> first | omega | rfl
theorem fldB_last {k : Nat} (h : 7 ≤ k) : fldB k = "value" := by
  unfold fldB
  split <;> first | omega | rfl

/-- [f k for k in range(n)] -/
theorem lcR_map {σ : L2.St} {H : Hp} {te : TE} {ta : TA} {vs : List Nat} {i : Nat} {Q : VK} {n : Nat} (f : Nat → V) (hz : n ≤ 100000) (hta : ∀ R : List V → Hp → Prop, R [.int (n : Int)] H → ta σ H R)
    (hw : ∀ v : V, wipe ((wipe σ vs).set i (some v)) vs = wipe σ vs) (he : ∀ (k : Nat) (H2 : Hp) (R : VK), k < n → Ext H H2 → R (f k) H2 → te ((wipe σ vs).set i (some (.int (k : Int)))) H2 R)
    (k : ∀ (D : Addr) (H2 : Hp), H D = none → Ext H H2 → H2 D = some (.lst ((List.range n).map f)) → Q (.ref D) H2) : tLc (iRng1 ta) (gName i) tYes te vs σ H Q := by
  refine hta _ ⟨(n : Int), rfl, by omega, by omega, fun L hL => ?_⟩
  refine lc_it (walk_range (lo := 0) (n := (n : Int).toNat)) (fun j H2 => Ext H H2 ∧ H2 L = some (.lst ((List.range j).map f))) ⟨Ext.nw hL, upd_same⟩ (fun _ _ _ _ => trivial) (fun j x H2 H3 hn p y => ?_) (fun H2 p => ?_)
  · obtain ⟨rfl, rfl⟩ := y
    refine ⟨hw _, ?_⟩
    unfold tYes
    dsimp only
    rw [if_pos (rfl : true = true), Int.zero_add]
    refine he j H3 _ (by omega) p.1 ⟨_, p.2, ?_, ?_, ?_⟩
    · rw [List.length_map, List.length_range]
      exact lt_line (by omega)
    · exact p.1.mut hL
    · rw [upd_same, List.range_succ, List.map_append]
      rfl
  · rw [Int.toNat_natCast] at p
    exact k L H2 hL p.1 p.2
def spOnly : Sp := fun vs H Q _ => ∃ (t : Addr) (n : Nat) (is : List Nat), vs = [.ref t, .int (n : Int)] ∧ H t = some (.tup (is.map fun i : Nat => V.int (i : Int))) ∧ n ≤ 100000 ∧ ∀ v H2, Ext H H2 → Dq H2 v (.list ((List.range n).map fun i => .bool (is.contains i))) → Q v H2
theorem inV_ints (is : List Nat) (j : Nat) : inV (V.int (j : Int)) (is.map fun i : Nat => V.int (i : Int)) = is.contains j := by
  unfold inV
  rw [List.any_map, List.contains_eq_any_beq]
  congr 1
  funext i
  show eqV (V.int (i : Int)) (V.int (j : Int)) = (j == i)
  rw [Bool.eq_iff_iff]
  simp [eqV]
  omega
theorem flat_ints (is : List Nat) : (is.map fun i : Nat => V.int (i : Int)).all flatV = true := by
  rw [List.all_eq_true]
  intro x hx
  obtain ⟨i, _, rfl⟩ := List.mem_map.mp hx
  rfl
theorem dqa_bls {H : Hp} {α : Type} (f : α → Bool) : ∀ l : List α, DqAll H (l.map fun i => V.bl (f i)) (l.map fun i => PyData.bool (f i))
  | [] => .nil
  | _ :: r => .cons (.bl _) (dqa_bls f r)
def spRaised (A : Adr) : Sp := fun vs H _ E => ∃ (k : Nat) (v : V), vs = [.int (k : Int), v] ∧ ∀ dx, H dx = none → E (.ref (clsB A k)) (some dx) (upd H dx (.xd [(fldB k, v)]))
def wordB : Nat → Str
  | 0 => "shelf" | 1 => "shelf" | 2 => "shelf" | 3 => "key" | 4 => "lookup" | 5 => "lookup" | _ => "number"
def spCaught : Sp := fun vs H Q _ => ∃ (k : Nat) (v : V), vs = [.int (k : Int), v] ∧ k < 8 ∧ ∀ H2, Ext H H2 → Q (.str (wordB k)) H2
theorem exm_own1 {K : PySem.W.Frag} {D C : Addr} {m mC : List Value} (T : ErrK K D m) (TC : ErrK K C mC) : PySem.W.exmOne K (.ref D) (.ref C) = some ((Value.ref D :: m).contains (.ref C)) := by
  obtain ⟨cd, hc, _, _⟩ := TC.cls
  unfold PySem.W.exmOne
  rw [TC.sb, if_pos (by rfl)]
  show (if ((PySem.W.clsIn K C).isSome && PySem.W.typeIn K (.ref C) == some (.type "type")) = true then PySem.W.mroIn K D (.ref C) else none) = _
  rw [hc, TC.ty, if_pos (by rfl), mro_err T]
theorem exm_type1 {K : PySem.W.Frag} {D : Addr} {m : List Value} {n : String} (T : ErrK K D m) (hn : PySem.W.kitMeta n = true) (hb : (PySem.fastBuiltinMro n).map (·.contains (Value.type "BaseException")) = some true) : PySem.W.exmOne K (.ref D) (.type n) = some ((Value.ref D :: m).contains (.type n)) := by
  unfold PySem.W.exmOne
  rw [show PySem.W.subIn K (.type n) (.type "BaseException") = some true from hb, if_pos (by rfl)]
  show (if PySem.W.kitMeta n = true then PySem.W.mroIn K D (.type n) else none) = _
  rw [if_pos hn, mro_err T]
theorem exm_two1 {K : PySem.W.Frag} {t c e : Value} {b1 b2 : Bool} (h1 : PySem.W.exmOne K t c = some b1) (h2 : PySem.W.exmOne K t e = some b2) : hitBy K t [c, e] = some (b1 || b2) := by
  show PySem.W.exmAny K t [c, e] = _
  unfold PySem.W.exmAny
  rw [h1]
  unfold PySem.W.exmAny
  rw [h2]
  show some (b1 || (b2 || false)) = _
  rw [Bool.or_false]
def errL (A : Adr) : List Addr := [A.c_ShelfError, A.c_ParseError, A.c_Stopped, A.c_Wrong, A.c_UnknownName, A.c_UnknownKey, A.c_NothingToUndo, A.c_TooMany, A.c_InvalidNumber]
theorem nd_ne {l : List Addr} (h : l.Nodup) (i j : Nat) {a b : Addr} (hi : l[i]? = some a) (hj : l[j]? = some b) (n : i ≠ j) : a ≠ b := fun e => by
  subst e
  have hl : i < l.length := by
    by_cases z : i < l.length
    · exact z
    · rw [List.getElem?_eq_none (by omega)] at hi
      cases hi
  exact n ((List.getElem?_inj hl h).mp (hi.trans hj.symm))
theorem no_ref {a b : Addr} {m : List Value} (n : a ≠ b) (hm : m.contains (.ref b) = false) : (Value.ref a :: m).contains (.ref b) = false := by
  rw [List.contains_cons, hm, Bool.or_false]
  exact beq_eq_false_iff_ne.mpr fun e => n (Value.ref.inj e).symm
theorem yes_ref {a : Addr} {m : List Value} : (Value.ref a :: m).contains (.ref a) = true := by
  rw [List.contains_cons, beq_self_eq_true, Bool.true_or]
theorem yes_ref2 {a b : Addr} {m : List Value} : (Value.ref b :: Value.ref a :: m).contains (.ref a) = true := by
  rw [List.contains_cons, yes_ref, Bool.or_true]
theorem nt {b : Bool} {P : Prop} (h : b = false) : b = true → P := fun e => absurd (h.symm.trans e) (by decide)
theorem nf {b : Bool} {P : Prop} (h : b = true) : b = false → P := fun e => absurd (h.symm.trans e) (by decide)
theorem or_t1 {a b : Bool} (h : a = true) : (a || b) = true := by rw [h]; rfl
theorem or_t2 {a b : Bool} (h : b = true) : (a || b) = true := by rw [h, Bool.or_true]
theorem or_ff {a b : Bool} (h : a = false) (h' : b = false) : (a || b) = false := by rw [h, h']; rfl
abbrev sgnS : Str := Str.ofString "abcdefghijklmnopqrstuvwxyzABCXYZ 0123456789.,:;-_()"
def spValue : Sp := fun vs H Q _ => ∃ (D : Addr) (k : Nat), vs = [.ref D, .int (k : Int)] ∧ Dc H D ∧ ∀ (v : V) (d : PyData) (H2 : Hp), Good d → Ge D H H2 → Dq H2 v d → Q v H2
theorem dq_strv {H : Hp} {v : V} {z : Str} (h : Dq H v (.str z)) : v = .str z := by cases h; rfl
theorem wd_am {z : Str} (h : Wd 10 z) : Am (.str z) := by
  refine ⟨?_, h.ln, rfl, Nat.zero_le _, (fun z => nomatch z), fun y e => by cases e; have := h.ln; omega⟩
  simp only [PyData.leavesShort, List.all_eq_true, decide_eq_true_eq]
  intro c hc
  exact Nat.lt_trans (h.cs c hc) (by decide)
def ceD (n : Int) : PyData := .tuple [.str "counterexample", .tuple [.tuple [.str "add", .str "a", .tuple [.int n]], .tuple [.str "remove", .int 1]]]
theorem ce_good {n : Int} (h : n.natAbs < Big) : Good (ceD n) := by
  have a := (fl_int h).am
  have lv : (ceD n).leavesShort 120 = true := by
    have l0 : (PyData.str (Str.ofString "counterexample")).leavesShort 120 = true := by decide +kernel
    have l1 : (PyData.str (Str.ofString "add")).leavesShort 120 = true := by decide +kernel
    have l2 : (PyData.str (Str.ofString "a")).leavesShort 120 = true := by decide +kernel
    have l3 : (PyData.tuple [.str (Str.ofString "remove"), .int 1]).leavesShort 120 = true := by decide +kernel
    have := a.lv
    unfold ceD
    simp only [PyData.leavesShort, PyData.leavesShortAll, Bool.and_true, Bool.and_eq_true] at l0 l1 l2 l3 this ⊢
    simp_all
  refine ⟨⟨?_, (fun _ => by rfl), ?_, ?_⟩, fun y e => nomatch e⟩
  · have := a.sh
    unfold ceD
    simp_all [PyData.showable, PyData.showableAll]
    decide +kernel
  · show PyData.depth (ceD 0) ≤ _
    decide +kernel
  · have s := PyData.shown_le_bulk 120 (by decide) _ lv
    have b : (ceD n).bulk ≤ 100 := by
      show PyData.bulk (ceD 0) ≤ 100
      decide +kernel
    have m2 : (120 + 2) * (ceD n).bulk ≤ 122 * 100 := Nat.mul_le_mul (Nat.le_refl _) b
    refine Nat.le_trans s (Nat.le_trans (show _ ≤ 200000 by omega) (by decide))

theorem ok_dice {A : Adr} (T : Txt P K mg A) : FnOk P w K mg base CX0 1 A.f_dice A.o_dice P_dice (spDice K) := by
  refine T.d_dice.F.ok sc_dice (fun vs H Q E h => ?_) (fun cdv Ar outer s H vs Q E hr h => ?_)
  · obtain ⟨l, ns, i, rfl, _⟩ := h
    rfl
  · obtain ⟨l, ns, i, rfl, hS, hi, q⟩ := h
    refine ⟨_, (pss_cons (ps_set (i := 2) sc_dice.nd rfl (by first | exact Or.inl rfl | exact Or.inr rfl) (pe_ifExp (pt_cmpR op_lt (pv 1) (pe_callB call_len (by rfl) T.z_len PySem.boot_len (pa_cons (pv 0) pa_nil)) (nomark _)) (pe_ix ix_list (pv 0) (pv 1) (fun _ _ => rfl)) (pe_op op_add (pe_op op_mulW pe_int (pv 1)) pe_int)))
      (pss_cons (ps_set (i := 3) sc_dice.nd rfl (by first | exact Or.inl rfl | exact Or.inr rfl) (pe_op op_mod (pe_callTy call_int1 (by rfl) T.z_int boot_int (pa_cons (pe_callB call_abs (by rfl) T.z_abs boot_abs (pa_cons (pv 2) pa_nil)) pa_nil)) (pe_op op_powW (pe_op op_powW pe_int pe_int) pe_int)))
      (pss_cons (ps_set (i := 4) sc_dice.nd rfl (by first | exact Or.inl rfl | exact Or.inr rfl) (pe_op op_mulW (pe_op op_mod (pe_callTy call_int1 (by rfl) T.z_int boot_int (pa_cons (pv 3) pa_nil)) pe_int) pe_int))
      (pss_cons (ps_set (i := 4) sc_dice.nd rfl (by first | exact Or.inl rfl | exact Or.inr rfl) (pe_op op_add (pe_op op_add (pe_op op_add (pv 4) (pe_op op_mulW pe_int (pv 1))) (pe_op op_mulW pe_int (pe_callTy call_int1 (by rfl) T.z_int boot_int (pa_cons (pe_cmpR op_lt (pv 2) pe_int (nomark _)) pa_nil)))) pe_int))
      (pss_one (ps_ret (pe_lst (pa_cons (pe_callB (call_max2 rfl) (by rfl) T.z_max boot_max (pa_cons pe_int (pa_cons (pe_op op_sub (pv 3) (pe_op op_powW pe_int pe_int)) pa_nil))) (pa_cons (pe_op op_mod (pe_callTy call_int1 (by rfl) T.z_int boot_int (pa_cons (pv 4) pa_nil)) pe_int) (pa_cons pe_int pa_nil)))))))))), ?_⟩
    refine ⟨_, rfl, _, rfl, _, _, rfl, .inl ⟨_, hS, rfl⟩, _, _, rfl, rfl, _, rfl, if_cell rfl rfl hS hi fun c => ?_⟩
    -- whole, seed
    refine ⟨_, rfl, c, rfl, .inl ⟨_, rfl, _, _, rfl, rfl, ⟨by decide, by decide +kernel⟩, _, _, rfl, rfl, ⟨by decide, by decide +kernel⟩, _, _, rfl, rfl, (show (0 : Int) < (10 ^ Int.toNat 60) ^ Int.toNat 10 by decide +kernel), ?_⟩⟩
    refine ⟨_, rfl, .inl ⟨_, rfl, _, _, rfl, rfl, (show (0 : Int) < 2305843009213693951 by decide), _, _, rfl, rfl, mul_ok 62 62 (mod_lt _ 62 (by decide) (by decide)) (by decide) (by decide), ?_⟩⟩
    refine ⟨_, rfl, _, rfl, _, _, rfl, rfl, mul_ok 10 10 (by decide) (by omega) (by decide), _, _, rfl, rfl, ?_⟩
    refine ⟨_, rfl, _, _, rfl, rfl, .inr ⟨_, rfl, _, _, rfl, rfl, mul_ok 10 1 (by decide) (b2i_lt _) (by decide), _, _, rfl, rfl, _, _, rfl, rfl, ?_⟩⟩
    -- the list
    refine ⟨_, rfl, _, _, rfl, rfl, ⟨by decide, by decide +kernel⟩, _, _, rfl, rfl, _, _, rfl, ?_⟩
    refine ⟨_, rfl, .inl ⟨_, rfl, _, _, rfl, rfl, (show (0 : Int) < 18014398509481951 by decide), le_line (by show 3 ≤ 100000; decide), fun p hp => ?_⟩⟩
    exact q p _ hp (Ext.nw hp) ⟨_, _, _, upd_same⟩
theorem ok_roll {A : Adr} (T : Txt P K mg A) : FnOk P w K mg base CX0 1 A.f_roll A.o_roll P_roll (spRoll) := by
  refine T.d_roll.F.ok sc_roll (fun vs H Q E h => ?_) (fun cdv Ar outer s H vs Q E hr h => ?_)
  · obtain ⟨D, m, rfl, _⟩ := h
    rfl
  · obtain ⟨D, m, rfl, ⟨x, y, z, hD⟩, m0, mb, q⟩ := h
    refine ⟨_, (pss_cons (ps_if (pt_cmpR op_gt (pe_ix ix_list (pv 0) pe_int (fun _ _ => rfl)) pe_int (nomark _)) (pss_cons (ps_set (i := 2) sc_roll.nd rfl (by first | exact Or.inl rfl | exact Or.inr rfl) (pe_op op_mod (pe_callTy call_int1 (by rfl) T.z_int boot_int (pa_cons (pe_ix ix_list (pv 0) pe_int (fun _ _ => rfl)) pa_nil)) (pv 1)))
      (pss_cons (ps_asg (pe_op op_fdivW (pe_ix ix_list (pv 0) pe_int (fun _ _ => rfl)) (pv 1)) (pg_sub (pv 0) pe_int set_list))
      (pss_one (ps_ret (pv 2))))) pss_nil)
      (pss_cons (ps_asg (pe_op op_add (pe_ix ix_list (pv 0) pe_int (fun _ _ => rfl)) pe_int) (pg_sub (pv 0) pe_int set_list))
      (pss_cons (ps_set (i := 3) sc_roll.nd rfl (by first | exact Or.inl rfl | exact Or.inr rfl) (pe_op op_mod (pe_callTy call_int1 (by rfl) T.z_int boot_int (pa_cons (pe_op op_add (pe_ix ix_list (pv 0) pe_int (fun _ _ => rfl)) (pe_op op_mul pe_int (pe_ix ix_list (pv 0) pe_int (fun _ _ => rfl)))) pa_nil)) pe_int))
      (pss_cons (ps_set (i := 4) sc_roll.nd rfl (by first | exact Or.inl rfl | exact Or.inr rfl) (pe_op op_mod (pe_callTy call_int1 (by rfl) T.z_int boot_int (pa_cons (pe_op op_add (pe_op op_mulW (pv 3) (pv 3)) (pe_op op_mul pe_int (pe_ix ix_list (pv 0) pe_int (fun _ _ => rfl)))) pa_nil)) pe_int))
      (pss_one (ps_ret (pe_op op_mod (pe_callTy call_int1 (by rfl) T.z_int boot_int (pa_cons (pe_op op_fdivW (pe_op op_mod (pe_callTy call_int1 (by rfl) T.z_int boot_int (pa_cons (pe_op op_mulW (pv 4) (pv 3)) pa_nil)) pe_int) pe_int) pa_nil)) (pv 1)))))))), ?_⟩
    have hS : SqL K H D [.int x, .int y, .int z] := SqL.of hD
    have dc : Dc H D := ⟨x, y, z, hD⟩
    refine ⟨_, rfl, _, _, _, _, rfl, rfl, hS, (atI_nat (j := 0) rfl), _, _, rfl, rfl, _, rfl, ite_b (fun _ => ?_) (fun _ => ?_)⟩
    · refine ⟨_, rfl, _, _, _, _, rfl, rfl, hS, (atI_nat (j := 0) rfl), .inl ⟨_, rfl, _, rfl, _, _, rfl, rfl, m0, ?_⟩⟩
      refine ⟨_, rfl, _, _, _, _, rfl, rfl, hS, (atI_nat (j := 0) rfl), _, rfl, _, _, rfl, rfl, wide_div m0 mb (by decide) (by decide), ?_⟩
      refine ⟨_, rfl, D, _, 0, 0, rfl, rfl, hD, rfl, ?_⟩
      exact ⟨_, rfl, q _ _ (Int.emod_nonneg _ (by omega)) (Int.emod_lt_of_pos _ m0) ((Ge.rfl' dc).roll)⟩
    · refine ⟨_, rfl, _, _, _, _, rfl, rfl, hS, (atI_nat (j := 2) rfl), _, _, rfl, rfl, ?_⟩
      refine ⟨_, rfl, D, _, 2, 2, rfl, rfl, hD, rfl, ?_⟩
      have hT : ∀ u : Int, SqL K (upd H D (.lst ([V.int x, V.int y, V.int z].set 2 (.int u)))) D [.int x, .int y, .int u] := fun u => SqL.of upd_same
      refine ⟨_, rfl, _, _, _, _, rfl, rfl, hT _, (atI_nat (j := 1) rfl), _, rfl, _, _, _, _, rfl, rfl, hT _, (atI_nat (j := 2) rfl), _, _, rfl, rfl, .inl ⟨by decide, by decide⟩, _, _, rfl, rfl, .inl ⟨_, rfl, _, _, rfl, rfl, (show (0 : Int) < 9007199254740881 by decide), ?_⟩⟩
      have b1 : ∀ u : Int, (u % 9007199254740881).natAbs < 2 ^ 54 := fun u => mod_lt u 54 (by decide) (by decide)
      have b2 : ∀ u : Int, (u % 4611686018427387847).natAbs < 2 ^ 63 := fun u => mod_lt u 63 (by decide) (by decide)
      refine ⟨_, rfl, _, rfl, _, _, rfl, rfl, mul_ok 54 54 (b1 _) (b1 _) (by decide), _, rfl, _, _, _, _, rfl, rfl, hT _, (atI_nat (j := 2) rfl), _, _, rfl, rfl, .inl ⟨by decide, by decide⟩, _, _, rfl, rfl, .inl ⟨_, rfl, _, _, rfl, rfl, (show (0 : Int) < 4611686018427387847 by decide), ?_⟩⟩
      refine ⟨_, rfl, _, rfl, _, _, rfl, rfl, mul_ok 63 54 (b2 _) (b1 _) (by decide), .inl ⟨_, rfl, _, _, rfl, rfl, (show (0 : Int) < 1125899906842597 by decide), _, _, rfl, rfl, wide_div (b := 20) (by decide) (by decide) (by decide) (by decide), .inl ⟨_, rfl, _, rfl, _, _, rfl, rfl, m0, ?_⟩⟩⟩
      exact q _ _ (Int.emod_nonneg _ (by omega)) (Int.emod_lt_of_pos _ m0) ((Ge.rfl' dc).roll)
theorem ok_pick {A : Adr} (T : Txt P K mg A) : FnOk P w K mg base CX0 2 A.f_pick A.o_pick P_pick (spPick) := by
  refine T.d_pick.F.ok sc_pick (fun vs H Q E h => ?_) (fun cdv Ar outer s H vs Q E hr h => ?_)
  · obtain ⟨D, l, xs, rfl, _⟩ := h
    rfl
  · obtain ⟨D, l, xs, rfl, dc, hl, nl, ne, hz, q⟩ := h
    refine ⟨_, (pss_one (ps_ret (pe_ix ix_list (pv 1) (pe_call (ok_roll T) (hr.mono (by decide)) (by rfl) T.d_roll.g T.d_roll.F.kp T.d_roll.b .nil pass0 (pa_cons (pv 0) (pa_cons (pe_callB call_len (by rfl) T.z_len PySem.boot_len (pa_cons (pv 1) pa_nil)) pa_nil))) (fun _ _ => rfl)))), ?_⟩
    have n0 : 0 < xs.length := List.length_pos_iff.mpr ne
    refine ⟨_, rfl, _, rfl, _, rfl, _, _, rfl, .inl ⟨_, SqL.of hl, rfl⟩, D, _, rfl, dc, by omega, ?_, fun r H2 r0 r1 g => ?_⟩
    · have : (2 : Nat) ^ 20 ≤ 2 ^ 8000 := Nat.pow_le_pow_right (by decide) (by decide)
      omega
    · obtain ⟨v, hv, hat⟩ := vmem r0 r1
      exact ⟨l, _, _, v, rfl, rfl, SqL.of (g.kp _ _ nl hl), hat, q v H2 hv g⟩
theorem ok_with_message {A : Adr} (T : Txt P K mg A) : FnOk P w K mg base CX0 1 A.f_with_message A.o_with_message P_with_message (spMsg A) := by
  refine T.d_with_message.F.ok sc_with_message (fun vs H Q E h => ?_) (fun cdv Ar outer s H vs Q E hr h => ?_)
  · obtain ⟨k, t, rfl, _⟩ := h
    rfl
  · obtain ⟨k, t, rfl, q⟩ := h
    refine ⟨_, (pss_cons (ps_if (pt_cmpR op_eq (pv 0) pe_int (nomark _)) (pss_one (ps_ret (pe_errB T.b_InvalidTable (by rfl) T.g_InvalidTable (pv 1)))) pss_nil)
      (pss_cons (ps_if (pt_cmpR op_eq (pv 0) pe_int (nomark _)) (pss_one (ps_ret (pe_errB T.b_InvalidRow (by rfl) T.g_InvalidRow (pv 1)))) pss_nil)
      (pss_cons (ps_if (pt_cmpR op_eq (pv 0) pe_int (nomark _)) (pss_one (ps_ret (pe_errB T.b_InvalidBag (by rfl) T.g_InvalidBag (pv 1)))) pss_nil)
      (pss_cons (ps_if (pt_cmpR op_eq (pv 0) pe_int (nomark _)) (pss_one (ps_ret (pe_errB T.b_InvalidQuery (by rfl) T.g_InvalidQuery (pv 1)))) pss_nil)
      (pss_cons (ps_if (pt_cmpR op_eq (pv 0) pe_int (nomark _)) (pss_one (ps_ret (pe_errB T.b_InvalidStore (by rfl) T.g_InvalidStore (pv 1)))) pss_nil)
      (pss_cons (ps_if (pt_cmpR op_eq (pv 0) pe_int (nomark _)) (pss_one (ps_ret (pe_errB T.b_InvalidStep (by rfl) T.g_InvalidStep (pv 1)))) pss_nil)
      (pss_cons (ps_if (pt_cmpR op_eq (pv 0) pe_int (nomark _)) (pss_one (ps_ret (pe_errB T.b_InvalidPlan (by rfl) T.g_InvalidPlan (pv 1)))) pss_nil)
      (pss_cons (ps_if (pt_cmpR op_eq (pv 0) pe_int (nomark _)) (pss_one (ps_ret (pe_errB T.b_InvalidTransition (by rfl) T.g_InvalidTransition (pv 1)))) pss_nil)
      (pss_cons (ps_if (pt_cmpR op_eq (pv 0) pe_int (nomark _)) (pss_one (ps_ret (pe_errB T.b_InvalidScheme (by rfl) T.g_InvalidScheme (pv 1)))) pss_nil)
      (pss_cons (ps_if (pt_cmpR op_eq (pv 0) pe_int (nomark _)) (pss_one (ps_ret (pe_errB T.b_InvalidEvent (by rfl) T.g_InvalidEvent (pv 1)))) pss_nil)
      (pss_cons (ps_if (pt_cmpR op_eq (pv 0) pe_int (nomark _)) (pss_one (ps_ret (pe_errB T.b_InvalidSnapshot (by rfl) T.g_InvalidSnapshot (pv 1)))) pss_nil)
      (pss_cons (ps_if (pt_cmpR op_eq (pv 0) pe_int (nomark _)) (pss_one (ps_ret (pe_errB T.b_InvalidTree (by rfl) T.g_InvalidTree (pv 1)))) pss_nil)
      (pss_one (ps_ret (pe_ifExp (pt_cmpR op_eq (pv 0) pe_int (nomark _)) (pe_errB T.b_InvalidOperation (by rfl) T.g_InvalidOperation (pv 1)) (pe_errB T.b_ShelfError (by rfl) T.g_ShelfError (pv 1))))))))))))))))), ?_⟩
    refine ⟨_, rfl, rfl, _, rfl, ite_b (fun e => ?_) (fun e0 => ?_)⟩
    · have := k_eq (n := 0) e; subst this
      exact ⟨_, rfl, q⟩
    refine ⟨_, rfl, rfl, _, rfl, ite_b (fun e => ?_) (fun e1 => ?_)⟩
    · have := k_eq (n := 1) e; subst this
      exact ⟨_, rfl, q⟩
    refine ⟨_, rfl, rfl, _, rfl, ite_b (fun e => ?_) (fun e2 => ?_)⟩
    · have := k_eq (n := 2) e; subst this
      exact ⟨_, rfl, q⟩
    refine ⟨_, rfl, rfl, _, rfl, ite_b (fun e => ?_) (fun e3 => ?_)⟩
    · have := k_eq (n := 3) e; subst this
      exact ⟨_, rfl, q⟩
    refine ⟨_, rfl, rfl, _, rfl, ite_b (fun e => ?_) (fun e4 => ?_)⟩
    · have := k_eq (n := 4) e; subst this
      exact ⟨_, rfl, q⟩
    refine ⟨_, rfl, rfl, _, rfl, ite_b (fun e => ?_) (fun e5 => ?_)⟩
    · have := k_eq (n := 5) e; subst this
      exact ⟨_, rfl, q⟩
    refine ⟨_, rfl, rfl, _, rfl, ite_b (fun e => ?_) (fun e6 => ?_)⟩
    · have := k_eq (n := 6) e; subst this
      exact ⟨_, rfl, q⟩
    refine ⟨_, rfl, rfl, _, rfl, ite_b (fun e => ?_) (fun e7 => ?_)⟩
    · have := k_eq (n := 7) e; subst this
      exact ⟨_, rfl, q⟩
    refine ⟨_, rfl, rfl, _, rfl, ite_b (fun e => ?_) (fun e8 => ?_)⟩
    · have := k_eq (n := 8) e; subst this
      exact ⟨_, rfl, q⟩
    refine ⟨_, rfl, rfl, _, rfl, ite_b (fun e => ?_) (fun e9 => ?_)⟩
    · have := k_eq (n := 9) e; subst this
      exact ⟨_, rfl, q⟩
    refine ⟨_, rfl, rfl, _, rfl, ite_b (fun e => ?_) (fun e10 => ?_)⟩
    · have := k_eq (n := 10) e; subst this
      exact ⟨_, rfl, q⟩
    refine ⟨_, rfl, rfl, _, rfl, ite_b (fun e => ?_) (fun e11 => ?_)⟩
    · have := k_eq (n := 11) e; subst this
      exact ⟨_, rfl, q⟩
    refine ⟨_, rfl, rfl, _, rfl, ite_b (fun e => ?_) (fun e12 => ?_)⟩
    · have := k_eq (n := 12) e; subst this
      exact ⟨_, rfl, q⟩
    · refine ⟨_, rfl, ?_⟩
      rw [clsA_last (by have := k_ne (n := 0) e0; have := k_ne (n := 1) e1; have := k_ne (n := 2) e2; have := k_ne (n := 3) e3; have := k_ne (n := 4) e4; have := k_ne (n := 5) e5; have := k_ne (n := 6) e6; have := k_ne (n := 7) e7; have := k_ne (n := 8) e8; have := k_ne (n := 9) e9; have := k_ne (n := 10) e10; have := k_ne (n := 11) e11; have := k_ne (n := 12) e12; omega)] at q
      exact q
theorem ok_keeping {A : Adr} (T : Txt P K mg A) : FnOk P w K mg base CX0 2 A.f_keeping A.o_keeping P_keeping (spKeep A) := by
  refine T.d_keeping.F.ok sc_keeping (fun vs H Q E h => ?_) (fun cdv Ar outer s H vs Q E hr h => ?_)
  · obtain ⟨k, v, rfl, _⟩ := h
    rfl
  · obtain ⟨k, v, rfl, q⟩ := h
    refine ⟨_, (pss_cons (ps_if (pt_cmpR op_eq (pv 0) pe_int (nomark _)) (pss_one (ps_ret (pe_err (k := 0) T.t_ParseError (hr.mono (by decide)) (by rfl) T.g_ParseError (pv 1)))) pss_nil)
      (pss_cons (ps_if (pt_cmpR op_eq (pv 0) pe_int (nomark _)) (pss_one (ps_ret (pe_err (k := 0) T.t_Stopped (hr.mono (by decide)) (by rfl) T.g_Stopped (pv 1)))) pss_nil)
      (pss_cons (ps_if (pt_cmpR op_eq (pv 0) pe_int (nomark _)) (pss_one (ps_ret (pe_err (k := 0) T.t_Wrong (hr.mono (by decide)) (by rfl) T.g_Wrong (pv 1)))) pss_nil)
      (pss_cons (ps_if (pt_cmpR op_eq (pv 0) pe_int (nomark _)) (pss_one (ps_ret (pe_err (k := 0) T.t_UnknownName (hr.mono (by decide)) (by rfl) T.g_UnknownName (pv 1)))) pss_nil)
      (pss_cons (ps_if (pt_cmpR op_eq (pv 0) pe_int (nomark _)) (pss_one (ps_ret (pe_err (k := 0) T.t_UnknownKey (hr.mono (by decide)) (by rfl) T.g_UnknownKey (pv 1)))) pss_nil)
      (pss_cons (ps_if (pt_cmpR op_eq (pv 0) pe_int (nomark _)) (pss_one (ps_ret (pe_err (k := 0) T.t_NothingToUndo (hr.mono (by decide)) (by rfl) T.g_NothingToUndo (pv 1)))) pss_nil)
      (pss_one (ps_ret (pe_ifExp (pt_cmpR op_eq (pv 0) pe_int (nomark _)) (pe_err (k := 0) T.t_TooMany (hr.mono (by decide)) (by rfl) T.g_TooMany (pv 1)) (pe_err (k := 0) T.t_InvalidNumber (hr.mono (by decide)) (by rfl) T.g_InvalidNumber (pv 1))))))))))), ?_⟩
    refine ⟨_, rfl, rfl, _, rfl, ite_b (fun e => ?_) (fun e0 => ?_)⟩
    · have := k_eq (n := 0) e; subst this
      exact ⟨_, rfl, q⟩
    refine ⟨_, rfl, rfl, _, rfl, ite_b (fun e => ?_) (fun e1 => ?_)⟩
    · have := k_eq (n := 1) e; subst this
      exact ⟨_, rfl, q⟩
    refine ⟨_, rfl, rfl, _, rfl, ite_b (fun e => ?_) (fun e2 => ?_)⟩
    · have := k_eq (n := 2) e; subst this
      exact ⟨_, rfl, q⟩
    refine ⟨_, rfl, rfl, _, rfl, ite_b (fun e => ?_) (fun e3 => ?_)⟩
    · have := k_eq (n := 3) e; subst this
      exact ⟨_, rfl, q⟩
    refine ⟨_, rfl, rfl, _, rfl, ite_b (fun e => ?_) (fun e4 => ?_)⟩
    · have := k_eq (n := 4) e; subst this
      exact ⟨_, rfl, q⟩
    refine ⟨_, rfl, rfl, _, rfl, ite_b (fun e => ?_) (fun e5 => ?_)⟩
    · have := k_eq (n := 5) e; subst this
      exact ⟨_, rfl, q⟩
    refine ⟨_, rfl, rfl, _, rfl, ite_b (fun e => ?_) (fun e6 => ?_)⟩
    · have := k_eq (n := 6) e; subst this
      exact ⟨_, rfl, q⟩
    refine ⟨_, rfl, ?_⟩
    rw [clsB_last (by have := k_ne (n := 0) e0; have := k_ne (n := 1) e1; have := k_ne (n := 2) e2; have := k_ne (n := 3) e3; have := k_ne (n := 4) e4; have := k_ne (n := 5) e5; have := k_ne (n := 6) e6; omega), fldB_last (by have := k_ne (n := 0) e0; have := k_ne (n := 1) e1; have := k_ne (n := 2) e2; have := k_ne (n := 3) e3; have := k_ne (n := 4) e4; have := k_ne (n := 5) e5; have := k_ne (n := 6) e6; omega)] at q
    exact q
theorem ok_kept {A : Adr} (T : Txt P K mg A) : FnOk P w K mg base CX0 1 A.f_kept A.o_kept P_kept (spKept A) := by
  refine T.d_kept.F.ok sc_kept (fun vs H Q E h => ?_) (fun cdv Ar outer s H vs Q E hr h => ?_)
  · obtain ⟨k, a, dx, v, rfl, _⟩ := h
    rfl
  · obtain ⟨k, a, dx, v, rfl, ha, hd, q⟩ := h
    refine ⟨_, (pss_cons (ps_if (pt_cmpR op_eq (pv 0) pe_int (nomark _)) (pss_one (ps_ret (pe_errF (pv 1)))) pss_nil)
      (pss_cons (ps_if (pt_cmpR op_eq (pv 0) pe_int (nomark _)) (pss_one (ps_ret (pe_errF (pv 1)))) pss_nil)
      (pss_cons (ps_if (pt_cmpR op_eq (pv 0) pe_int (nomark _)) (pss_one (ps_ret (pe_errF (pv 1)))) pss_nil)
      (pss_cons (ps_if (pt_cmpR op_eq (pv 0) pe_int (nomark _)) (pss_one (ps_ret (pe_errF (pv 1)))) pss_nil)
      (pss_cons (ps_if (pt_cmpR op_eq (pv 0) pe_int (nomark _)) (pss_one (ps_ret (pe_errF (pv 1)))) pss_nil)
      (pss_cons (ps_if (pt_cmpR op_eq (pv 0) pe_int (nomark _)) (pss_one (ps_ret (pe_errF (pv 1)))) pss_nil)
      (pss_one (ps_ret (pe_ifExp (pt_cmpR op_eq (pv 0) pe_int (nomark _)) (pe_errF (pv 1)) (pe_errF (pv 1))))))))))), ?_⟩
    refine ⟨_, rfl, rfl, _, rfl, ite_b (fun e => ?_) (fun e0 => ?_)⟩
    · have := k_eq (n := 0) e; subst this
      exact ⟨_, rfl, _, _, _, _, _, _, rfl, ha, hd, T.k_ParseError, T.n_ParseError, by rfl, q⟩
    refine ⟨_, rfl, rfl, _, rfl, ite_b (fun e => ?_) (fun e1 => ?_)⟩
    · have := k_eq (n := 1) e; subst this
      exact ⟨_, rfl, _, _, _, _, _, _, rfl, ha, hd, T.k_Stopped, T.n_Stopped, by rfl, q⟩
    refine ⟨_, rfl, rfl, _, rfl, ite_b (fun e => ?_) (fun e2 => ?_)⟩
    · have := k_eq (n := 2) e; subst this
      exact ⟨_, rfl, _, _, _, _, _, _, rfl, ha, hd, T.k_Wrong, T.n_Wrong, by rfl, q⟩
    refine ⟨_, rfl, rfl, _, rfl, ite_b (fun e => ?_) (fun e3 => ?_)⟩
    · have := k_eq (n := 3) e; subst this
      exact ⟨_, rfl, _, _, _, _, _, _, rfl, ha, hd, T.k_UnknownName, T.n_UnknownName, by rfl, q⟩
    refine ⟨_, rfl, rfl, _, rfl, ite_b (fun e => ?_) (fun e4 => ?_)⟩
    · have := k_eq (n := 4) e; subst this
      exact ⟨_, rfl, _, _, _, _, _, _, rfl, ha, hd, T.k_UnknownKey, T.n_UnknownKey, by rfl, q⟩
    refine ⟨_, rfl, rfl, _, rfl, ite_b (fun e => ?_) (fun e5 => ?_)⟩
    · have := k_eq (n := 5) e; subst this
      exact ⟨_, rfl, _, _, _, _, _, _, rfl, ha, hd, T.k_NothingToUndo, T.n_NothingToUndo, by rfl, q⟩
    refine ⟨_, rfl, rfl, _, rfl, ite_b (fun e => ?_) (fun e6 => ?_)⟩
    · have := k_eq (n := 6) e; subst this
      exact ⟨_, rfl, _, _, _, _, _, _, rfl, ha, hd, T.k_TooMany, T.n_TooMany, by rfl, q⟩
    rw [clsB_last (by have := k_ne (n := 0) e0; have := k_ne (n := 1) e1; have := k_ne (n := 2) e2; have := k_ne (n := 3) e3; have := k_ne (n := 4) e4; have := k_ne (n := 5) e5; have := k_ne (n := 6) e6; omega)] at ha
    rw [fldB_last (by have := k_ne (n := 0) e0; have := k_ne (n := 1) e1; have := k_ne (n := 2) e2; have := k_ne (n := 3) e3; have := k_ne (n := 4) e4; have := k_ne (n := 5) e5; have := k_ne (n := 6) e6; omega)] at hd
    exact ⟨_, rfl, _, _, _, _, _, _, rfl, ha, hd, T.k_InvalidNumber, T.n_InvalidNumber, by rfl, q⟩
theorem ok_kinds {A : Adr} (T : Txt P K mg A) : FnOk P w K mg base CX0 1 A.f_kinds A.o_kinds P_kinds (spKinds K (csA A)) := by
  refine T.d_kinds.F.ok sc_kinds (fun vs H Q E h => ?_) (fun cdv Ar outer s H vs Q E hr h => ?_)
  · obtain ⟨a, D, m, rfl, _⟩ := h
    rfl
  · obtain ⟨a, D, m, rfl, ea, k, q⟩ := h
    refine ⟨_, (pss_cons (ps_set (i := 1) sc_kinds.nd rfl (by first | exact Or.inl rfl | exact Or.inr rfl) (pe_lst (pa_cons (pe_callB call_isErr (by rfl) T.z_isinstance boot_isinstance (pa_cons (pv 0) (pa_cons (pe_glob (v := .ref _) (by rfl) T.g_InvalidTable rfl) pa_nil))) (pa_cons (pe_callB call_isErr (by rfl) T.z_isinstance boot_isinstance (pa_cons (pv 0) (pa_cons (pe_glob (v := .ref _) (by rfl) T.g_InvalidRow rfl) pa_nil))) (pa_cons (pe_callB call_isErr (by rfl) T.z_isinstance boot_isinstance (pa_cons (pv 0) (pa_cons (pe_glob (v := .ref _) (by rfl) T.g_InvalidBag rfl) pa_nil))) pa_nil)))))
      (pss_cons (ps_set (i := 1) sc_kinds.nd rfl (by first | exact Or.inl rfl | exact Or.inr rfl) (pe_op op_cat (pv 1) (pe_lst (pa_cons (pe_callB call_isErr (by rfl) T.z_isinstance boot_isinstance (pa_cons (pv 0) (pa_cons (pe_glob (v := .ref _) (by rfl) T.g_InvalidQuery rfl) pa_nil))) (pa_cons (pe_callB call_isErr (by rfl) T.z_isinstance boot_isinstance (pa_cons (pv 0) (pa_cons (pe_glob (v := .ref _) (by rfl) T.g_InvalidStore rfl) pa_nil))) (pa_cons (pe_callB call_isErr (by rfl) T.z_isinstance boot_isinstance (pa_cons (pv 0) (pa_cons (pe_glob (v := .ref _) (by rfl) T.g_InvalidStep rfl) pa_nil))) pa_nil))))))
      (pss_cons (ps_set (i := 1) sc_kinds.nd rfl (by first | exact Or.inl rfl | exact Or.inr rfl) (pe_op op_cat (pv 1) (pe_lst (pa_cons (pe_callB call_isErr (by rfl) T.z_isinstance boot_isinstance (pa_cons (pv 0) (pa_cons (pe_glob (v := .ref _) (by rfl) T.g_InvalidPlan rfl) pa_nil))) (pa_cons (pe_callB call_isErr (by rfl) T.z_isinstance boot_isinstance (pa_cons (pv 0) (pa_cons (pe_glob (v := .ref _) (by rfl) T.g_InvalidTransition rfl) pa_nil))) pa_nil)))))
      (pss_cons (ps_set (i := 1) sc_kinds.nd rfl (by first | exact Or.inl rfl | exact Or.inr rfl) (pe_op op_cat (pv 1) (pe_lst (pa_cons (pe_callB call_isErr (by rfl) T.z_isinstance boot_isinstance (pa_cons (pv 0) (pa_cons (pe_glob (v := .ref _) (by rfl) T.g_InvalidScheme rfl) pa_nil))) (pa_cons (pe_callB call_isErr (by rfl) T.z_isinstance boot_isinstance (pa_cons (pv 0) (pa_cons (pe_glob (v := .ref _) (by rfl) T.g_InvalidEvent rfl) pa_nil))) pa_nil)))))
      (pss_cons (ps_set (i := 1) sc_kinds.nd rfl (by first | exact Or.inl rfl | exact Or.inr rfl) (pe_op op_cat (pv 1) (pe_lst (pa_cons (pe_callB call_isErr (by rfl) T.z_isinstance boot_isinstance (pa_cons (pv 0) (pa_cons (pe_glob (v := .ref _) (by rfl) T.g_InvalidSnapshot rfl) pa_nil))) (pa_cons (pe_callB call_isErr (by rfl) T.z_isinstance boot_isinstance (pa_cons (pv 0) (pa_cons (pe_glob (v := .ref _) (by rfl) T.g_InvalidTree rfl) pa_nil))) pa_nil)))))
      (pss_one (ps_ret (pe_op op_cat (pv 1) (pe_lst (pa_cons (pe_callB call_isErr (by rfl) T.z_isinstance boot_isinstance (pa_cons (pv 0) (pa_cons (pe_glob (v := .ref _) (by rfl) T.g_InvalidOperation rfl) pa_nil))) (pa_cons (pe_callB call_isErr (by rfl) T.z_isinstance boot_isinstance (pa_cons (pv 0) (pa_cons (pe_glob (v := .ref _) (by rfl) T.g_ShelfError rfl) pa_nil))) pa_nil))))))))))), ?_⟩
    change tSeq _ _ _ _ _
    dsimp only [tRet, tSeq, tAsg, tIfS, tNext, gName_app]
    refine (evd_lst (evda_cons (evd_isErr (by rfl) ea k (.own _) (kit_cls k T.k_InvalidTable)) (evda_cons (evd_isErr (by rfl) ea k (.own _) (kit_cls k T.k_InvalidRow)) (evda_cons (evd_isErr (by rfl) ea k (.own _) (kit_cls k T.k_InvalidBag)) evda_nil))) (by simp)) H Ext.rfl' _ fun v1 H1 x1 d1 => ?_
    refine (evd_cat (evd_var (by rfl) d1) (evd_lst (evda_cons (evd_isErr (by rfl) (errAt_ext ea x1) k (.own _) (kit_cls k T.k_InvalidQuery)) (evda_cons (evd_isErr (by rfl) (errAt_ext ea x1) k (.own _) (kit_cls k T.k_InvalidStore)) (evda_cons (evd_isErr (by rfl) (errAt_ext ea x1) k (.own _) (kit_cls k T.k_InvalidStep)) evda_nil))) (by simp)) (by simp)) H1 Ext.rfl' _ fun v2 H2 y2 d2 => ?_
    have x2 := x1.tr y2
    refine (evd_cat (evd_var (by rfl) d2) (evd_lst (evda_cons (evd_isErr (by rfl) (errAt_ext ea x2) k (.own _) (kit_cls k T.k_InvalidPlan)) (evda_cons (evd_isErr (by rfl) (errAt_ext ea x2) k (.own _) (kit_cls k T.k_InvalidTransition)) evda_nil)) (by simp)) (by simp)) H2 Ext.rfl' _ fun v3 H3 y3 d3 => ?_
    have x3 := x2.tr y3
    refine (evd_cat (evd_var (by rfl) d3) (evd_lst (evda_cons (evd_isErr (by rfl) (errAt_ext ea x3) k (.own _) (kit_cls k T.k_InvalidScheme)) (evda_cons (evd_isErr (by rfl) (errAt_ext ea x3) k (.own _) (kit_cls k T.k_InvalidEvent)) evda_nil)) (by simp)) (by simp)) H3 Ext.rfl' _ fun v4 H4 y4 d4 => ?_
    have x4 := x3.tr y4
    refine (evd_cat (evd_var (by rfl) d4) (evd_lst (evda_cons (evd_isErr (by rfl) (errAt_ext ea x4) k (.own _) (kit_cls k T.k_InvalidSnapshot)) (evda_cons (evd_isErr (by rfl) (errAt_ext ea x4) k (.own _) (kit_cls k T.k_InvalidTree)) evda_nil)) (by simp)) (by simp)) H4 Ext.rfl' _ fun v5 H5 y5 d5 => ?_
    have x5 := x4.tr y5
    refine (evd_cat (evd_var (by rfl) d5) (evd_lst (evda_cons (evd_isErr (by rfl) (errAt_ext ea x5) k (.own _) (kit_cls k T.k_InvalidOperation)) (evda_cons (evd_isErr (by rfl) (errAt_ext ea x5) k (.own _) (kit_cls k T.k_ShelfError)) evda_nil)) (by simp)) (by simp)) H5 Ext.rfl' _ fun v6 H6 y6 d6 => ?_
    have x6 := x5.tr y6
    exact q _ _ x6 d6
theorem ok_kinds_kept {A : Adr} (T : Txt P K mg A) : FnOk P w K mg base CX0 1 A.f_kinds_kept A.o_kinds_kept P_kinds_kept (spKinds K (csB A)) := by
  refine T.d_kinds_kept.F.ok sc_kinds_kept (fun vs H Q E h => ?_) (fun cdv Ar outer s H vs Q E hr h => ?_)
  · obtain ⟨a, D, m, rfl, _⟩ := h
    rfl
  · obtain ⟨a, D, m, rfl, ea, k, q⟩ := h
    refine ⟨_, (pss_cons (ps_set (i := 1) sc_kinds_kept.nd rfl (by first | exact Or.inl rfl | exact Or.inr rfl) (pe_lst (pa_cons (pe_callB call_isErr (by rfl) T.z_isinstance boot_isinstance (pa_cons (pv 0) (pa_cons (pe_glob (v := .ref _) (by rfl) T.g_ParseError rfl) pa_nil))) (pa_cons (pe_callB call_isErr (by rfl) T.z_isinstance boot_isinstance (pa_cons (pv 0) (pa_cons (pe_glob (v := .ref _) (by rfl) T.g_Stopped rfl) pa_nil))) (pa_cons (pe_callB call_isErr (by rfl) T.z_isinstance boot_isinstance (pa_cons (pv 0) (pa_cons (pe_glob (v := .ref _) (by rfl) T.g_Wrong rfl) pa_nil))) pa_nil)))))
      (pss_cons (ps_set (i := 1) sc_kinds_kept.nd rfl (by first | exact Or.inl rfl | exact Or.inr rfl) (pe_op op_cat (pv 1) (pe_lst (pa_cons (pe_callB call_isErr (by rfl) T.z_isinstance boot_isinstance (pa_cons (pv 0) (pa_cons (pe_glob (v := .ref _) (by rfl) T.g_UnknownName rfl) pa_nil))) (pa_cons (pe_callB call_isErr (by rfl) T.z_isinstance boot_isinstance (pa_cons (pv 0) (pa_cons (pe_glob (v := .ref _) (by rfl) T.g_UnknownKey rfl) pa_nil))) (pa_cons (pe_callB call_isErr (by rfl) T.z_isinstance boot_isinstance (pa_cons (pv 0) (pa_cons (pe_glob (v := .ref _) (by rfl) T.g_NothingToUndo rfl) pa_nil))) pa_nil))))))
      (pss_one (ps_ret (pe_op op_cat (pv 1) (pe_lst (pa_cons (pe_callB call_isErr (by rfl) T.z_isinstance boot_isinstance (pa_cons (pv 0) (pa_cons (pe_glob (v := .ref _) (by rfl) T.g_TooMany rfl) pa_nil))) (pa_cons (pe_callB call_isErr (by rfl) T.z_isinstance boot_isinstance (pa_cons (pv 0) (pa_cons (pe_glob (v := .ref _) (by rfl) T.g_InvalidNumber rfl) pa_nil))) pa_nil)))))))), ?_⟩
    change tSeq _ _ _ _ _
    dsimp only [tRet, tSeq, tAsg, tIfS, tNext, gName_app]
    refine (evd_lst (evda_cons (evd_isErr (by rfl) ea k (.own _) (kit_cls k T.k_ParseError)) (evda_cons (evd_isErr (by rfl) ea k (.own _) (kit_cls k T.k_Stopped)) (evda_cons (evd_isErr (by rfl) ea k (.own _) (kit_cls k T.k_Wrong)) evda_nil))) (by simp)) H Ext.rfl' _ fun v1 H1 x1 d1 => ?_
    refine (evd_cat (evd_var (by rfl) d1) (evd_lst (evda_cons (evd_isErr (by rfl) (errAt_ext ea x1) k (.own _) (kit_cls k T.k_UnknownName)) (evda_cons (evd_isErr (by rfl) (errAt_ext ea x1) k (.own _) (kit_cls k T.k_UnknownKey)) (evda_cons (evd_isErr (by rfl) (errAt_ext ea x1) k (.own _) (kit_cls k T.k_NothingToUndo)) evda_nil))) (by simp)) (by simp)) H1 Ext.rfl' _ fun v2 H2 y2 d2 => ?_
    have x2 := x1.tr y2
    refine (evd_cat (evd_var (by rfl) d2) (evd_lst (evda_cons (evd_isErr (by rfl) (errAt_ext ea x2) k (.own _) (kit_cls k T.k_TooMany)) (evda_cons (evd_isErr (by rfl) (errAt_ext ea x2) k (.own _) (kit_cls k T.k_InvalidNumber)) evda_nil)) (by simp)) (by simp)) H2 Ext.rfl' _ fun v3 H3 y3 d3 => ?_
    have x3 := x2.tr y3
    exact q _ _ x3 d3
theorem ok_kinds_of_python {A : Adr} (T : Txt P K mg A) : FnOk P w K mg base CX0 1 A.f_kinds_of_python A.o_kinds_of_python P_kinds_of_python (spKinds K (csP)) := by
  refine T.d_kinds_of_python.F.ok sc_kinds_of_python (fun vs H Q E h => ?_) (fun cdv Ar outer s H vs Q E hr h => ?_)
  · obtain ⟨a, D, m, rfl, _⟩ := h
    rfl
  · obtain ⟨a, D, m, rfl, ea, k, q⟩ := h
    refine ⟨_, (pss_cons (ps_set (i := 1) sc_kinds_of_python.nd rfl (by first | exact Or.inl rfl | exact Or.inr rfl) (pe_lst (pa_cons (pe_callB call_isErr (by rfl) T.z_isinstance boot_isinstance (pa_cons (pv 0) (pa_cons (pe_bltn (v := .ty "ValueError") (by rfl) T.z_ValueError (show bootBuiltins "ValueError" = some (.type "ValueError") by decide +kernel) rfl) pa_nil))) (pa_cons (pe_callB call_isErr (by rfl) T.z_isinstance boot_isinstance (pa_cons (pv 0) (pa_cons (pe_bltn (v := .ty "KeyError") (by rfl) T.z_KeyError (show bootBuiltins "KeyError" = some (.type "KeyError") by decide +kernel) rfl) pa_nil))) (pa_cons (pe_callB call_isErr (by rfl) T.z_isinstance boot_isinstance (pa_cons (pv 0) (pa_cons (pe_bltn (v := .ty "IndexError") (by rfl) T.z_IndexError (show bootBuiltins "IndexError" = some (.type "IndexError") by decide +kernel) rfl) pa_nil))) pa_nil)))))
      (pss_cons (ps_set (i := 1) sc_kinds_of_python.nd rfl (by first | exact Or.inl rfl | exact Or.inr rfl) (pe_op op_cat (pv 1) (pe_lst (pa_cons (pe_callB call_isErr (by rfl) T.z_isinstance boot_isinstance (pa_cons (pv 0) (pa_cons (pe_bltn (v := .ty "LookupError") (by rfl) T.z_LookupError (show bootBuiltins "LookupError" = some (.type "LookupError") by decide +kernel) rfl) pa_nil))) (pa_cons (pe_callB call_isErr (by rfl) T.z_isinstance boot_isinstance (pa_cons (pv 0) (pa_cons (pe_bltn (v := .ty "OverflowError") (by rfl) T.z_OverflowError (show bootBuiltins "OverflowError" = some (.type "OverflowError") by decide +kernel) rfl) pa_nil))) pa_nil)))))
      (pss_one (ps_ret (pe_op op_cat (pv 1) (pe_lst (pa_cons (pe_callB call_isErr (by rfl) T.z_isinstance boot_isinstance (pa_cons (pv 0) (pa_cons (pe_bltn (v := .ty "ArithmeticError") (by rfl) T.z_ArithmeticError (show bootBuiltins "ArithmeticError" = some (.type "ArithmeticError") by decide +kernel) rfl) pa_nil))) (pa_cons (pe_callB call_isErr (by rfl) T.z_isinstance boot_isinstance (pa_cons (pv 0) (pa_cons (pe_bltn (v := .ty "RuntimeError") (by rfl) T.z_RuntimeError (show bootBuiltins "RuntimeError" = some (.type "RuntimeError") by decide +kernel) rfl) pa_nil))) pa_nil)))))))), ?_⟩
    change tSeq _ _ _ _ _
    dsimp only [tRet, tSeq, tAsg, tIfS, tNext, gName_app]
    refine (evd_lst (evda_cons (evd_isErr (by rfl) ea k (.ty _) (kit_type1 k (by decide +kernel))) (evda_cons (evd_isErr (by rfl) ea k (.ty _) (kit_type1 k (by decide +kernel))) (evda_cons (evd_isErr (by rfl) ea k (.ty _) (kit_type1 k (by decide +kernel))) evda_nil))) (by simp)) H Ext.rfl' _ fun v1 H1 x1 d1 => ?_
    refine (evd_cat (evd_var (by rfl) d1) (evd_lst (evda_cons (evd_isErr (by rfl) (errAt_ext ea x1) k (.ty _) (kit_type1 k (by decide +kernel))) (evda_cons (evd_isErr (by rfl) (errAt_ext ea x1) k (.ty _) (kit_type1 k (by decide +kernel))) evda_nil)) (by simp)) (by simp)) H1 Ext.rfl' _ fun v2 H2 y2 d2 => ?_
    have x2 := x1.tr y2
    refine (evd_cat (evd_var (by rfl) d2) (evd_lst (evda_cons (evd_isErr (by rfl) (errAt_ext ea x2) k (.ty _) (kit_type1 k (by decide +kernel))) (evda_cons (evd_isErr (by rfl) (errAt_ext ea x2) k (.ty _) (kit_type1 k (by decide +kernel))) evda_nil)) (by simp)) (by simp)) H2 Ext.rfl' _ fun v3 H3 y3 d3 => ?_
    have x3 := x2.tr y3
    exact q _ _ x3 d3
theorem ok_only {A : Adr} (T : Txt P K mg A) : FnOk P w K mg base CX0 1 A.f_only A.o_only P_only (spOnly) := by
  refine T.d_only.F.ok sc_only (fun vs H Q E h => ?_) (fun cdv Ar outer s H vs Q E hr h => ?_)
  · obtain ⟨t, n, is, rfl, _⟩ := h
    rfl
  · obtain ⟨t, n, is, rfl, ht, hz, q⟩ := h
    refine ⟨_, (pss_one (ps_ret (pe_lc (own := [("_law_at", 2)]) (g := gName 2) (tt := tYes) (by rfl) sc_only.nd (pi_range1 (by rfl) T.z_range (pa_cons (pv 1) pa_nil)) (blkOk_by (own := [("_law_at", 2)]) (N := N_only) (sc := defScope s_only) (by decide +kernel)) (fun _ _ _ _ _ => pg_name (i := 2) sc_only.nd rfl (Or.inl rfl)) (fun _ _ _ _ _ => pts_nil) (fun _ _ _ _ _ => (pe_cmpR (show OpR _ (compareOp .In) (rIn K false) from op_in_seq) (pv 2) (pv 0) (by rfl)))))), ?_⟩
    dsimp only [tRet, tSeq, tIfS, tAsg, tDrop, tCB, tCons, tNil, tCall, tTest, tB, tAnd, tOr, tNot, tAndV, tOrV, tNotV, tIf, tOp, tUn, tC, tTup, tLst, tNext, tSl, tPart, tNoPart, tPar, gName_app, List.map_cons, List.map_nil]
    refine lcR_map (n := n) (fun j => V.bl (is.contains j)) hz (fun R r => ⟨_, rfl, r⟩) (fun _ => rfl) (fun j H2 R hj e r => ⟨_, rfl, _, rfl, t, _, rfl, .inr (SqT.of (e _ _ ht)), rfl, flat_ints is, ?_⟩) (fun D H2 nD e hD => q _ _ e (.lst hD (dqa_bls _ _)))
    rw [if_neg Bool.false_ne_true, inV_ints]
    exact r
theorem ok_raised {A : Adr} (T : Txt P K mg A) : FnOk P w K mg base (L2.CX P w) 2 A.f_raised A.o_raised P_raised (spRaised A) := by
  refine T.d_raised.F.okX sc_raised (fun vs H Q E h => ?_) (fun cdv Ar outer s H vs Q E hr h => ?_)
  · obtain ⟨k, v, rfl, _⟩ := h
    rfl
  · obtain ⟨k, v, rfl, q⟩ := h
    refine ⟨_, (pss_cons (ps_if (pt_cmpR op_eq (pv 0) pe_int (nomark _)) (pss_one (ps_raise rfl (takes_of rfl rfl rfl rfl) (pmk_err (k := 0) T.t_ParseError (hr.mono (by decide)) (raises_own T.k_ParseError.sb T.k_ParseError.ty) (by rfl) T.g_ParseError (pv 1)))) pss_nil)
      (pss_cons (ps_if (pt_cmpR op_eq (pv 0) pe_int (nomark _)) (pss_one (ps_raise rfl (takes_of rfl rfl rfl rfl) (pmk_err (k := 0) T.t_Stopped (hr.mono (by decide)) (raises_own T.k_Stopped.sb T.k_Stopped.ty) (by rfl) T.g_Stopped (pv 1)))) pss_nil)
      (pss_cons (ps_if (pt_cmpR op_eq (pv 0) pe_int (nomark _)) (pss_one (ps_raise rfl (takes_of rfl rfl rfl rfl) (pmk_err (k := 0) T.t_Wrong (hr.mono (by decide)) (raises_own T.k_Wrong.sb T.k_Wrong.ty) (by rfl) T.g_Wrong (pv 1)))) pss_nil)
      (pss_cons (ps_if (pt_cmpR op_eq (pv 0) pe_int (nomark _)) (pss_one (ps_raise rfl (takes_of rfl rfl rfl rfl) (pmk_err (k := 0) T.t_UnknownName (hr.mono (by decide)) (raises_own T.k_UnknownName.sb T.k_UnknownName.ty) (by rfl) T.g_UnknownName (pv 1)))) pss_nil)
      (pss_cons (ps_if (pt_cmpR op_eq (pv 0) pe_int (nomark _)) (pss_one (ps_raise rfl (takes_of rfl rfl rfl rfl) (pmk_err (k := 0) T.t_UnknownKey (hr.mono (by decide)) (raises_own T.k_UnknownKey.sb T.k_UnknownKey.ty) (by rfl) T.g_UnknownKey (pv 1)))) pss_nil)
      (pss_cons (ps_if (pt_cmpR op_eq (pv 0) pe_int (nomark _)) (pss_one (ps_raise rfl (takes_of rfl rfl rfl rfl) (pmk_err (k := 0) T.t_NothingToUndo (hr.mono (by decide)) (raises_own T.k_NothingToUndo.sb T.k_NothingToUndo.ty) (by rfl) T.g_NothingToUndo (pv 1)))) pss_nil)
      (pss_cons (ps_if (pt_cmpR op_eq (pv 0) pe_int (nomark _)) (pss_one (ps_raise rfl (takes_of rfl rfl rfl rfl) (pmk_err (k := 0) T.t_TooMany (hr.mono (by decide)) (raises_own T.k_TooMany.sb T.k_TooMany.ty) (by rfl) T.g_TooMany (pv 1)))) pss_nil)
      (pss_one (ps_raise rfl (takes_of rfl rfl rfl rfl) (pmk_err (k := 0) T.t_InvalidNumber (hr.mono (by decide)) (raises_own T.k_InvalidNumber.sb T.k_InvalidNumber.ty) (by rfl) T.g_InvalidNumber (pv 1))))))))))), ?_⟩
    refine ⟨_, rfl, rfl, _, rfl, ite_b (fun e => ?_) (fun e0 => ?_)⟩
    · have := k_eq (n := 0) e; subst this
      exact ⟨_, rfl, q⟩
    refine ⟨_, rfl, rfl, _, rfl, ite_b (fun e => ?_) (fun e1 => ?_)⟩
    · have := k_eq (n := 1) e; subst this
      exact ⟨_, rfl, q⟩
    refine ⟨_, rfl, rfl, _, rfl, ite_b (fun e => ?_) (fun e2 => ?_)⟩
    · have := k_eq (n := 2) e; subst this
      exact ⟨_, rfl, q⟩
    refine ⟨_, rfl, rfl, _, rfl, ite_b (fun e => ?_) (fun e3 => ?_)⟩
    · have := k_eq (n := 3) e; subst this
      exact ⟨_, rfl, q⟩
    refine ⟨_, rfl, rfl, _, rfl, ite_b (fun e => ?_) (fun e4 => ?_)⟩
    · have := k_eq (n := 4) e; subst this
      exact ⟨_, rfl, q⟩
    refine ⟨_, rfl, rfl, _, rfl, ite_b (fun e => ?_) (fun e5 => ?_)⟩
    · have := k_eq (n := 5) e; subst this
      exact ⟨_, rfl, q⟩
    refine ⟨_, rfl, rfl, _, rfl, ite_b (fun e => ?_) (fun e6 => ?_)⟩
    · have := k_eq (n := 6) e; subst this
      exact ⟨_, rfl, q⟩
    rw [clsB_last (by have := k_ne (n := 0) e0; have := k_ne (n := 1) e1; have := k_ne (n := 2) e2; have := k_ne (n := 3) e3; have := k_ne (n := 4) e4; have := k_ne (n := 5) e5; have := k_ne (n := 6) e6; omega), fldB_last (by have := k_ne (n := 0) e0; have := k_ne (n := 1) e1; have := k_ne (n := 2) e2; have := k_ne (n := 3) e3; have := k_ne (n := 4) e4; have := k_ne (n := 5) e5; have := k_ne (n := 6) e6; omega)] at q
    exact ⟨_, rfl, q⟩
theorem ok_caught {A : Adr} (T : Txt P K mg A) : FnOk P w K mg base CX0 3 A.f_caught A.o_caught P_caught (spCaught) := by
  refine T.d_caught.F.ok sc_caught (fun vs H Q E h => ?_) (fun cdv Ar outer s H vs Q E hr h => ?_)
  · obtain ⟨k, v, rfl, _⟩ := h
    rfl
  · obtain ⟨k, v, rfl, hk, q⟩ := h
    refine ⟨_, (pss_cons (ps_try_sets rfl rfl takes0 (fun W pn xe tk pw => (pss_one (ps_expr (pe_call (E := fun c d H => ∀ σ, W c d σ H) (ok_raised T) (hr.mono (by decide)) (by rfl) T.d_raised.g T.d_raised.F.kp T.d_raised.b .nil (passes_call tk (fun _ _ σ _ z => z σ)) (pa_cons (pv 0) (pa_cons (pv 1) pa_nil)))))) (Clauses.cons (.one ⟨by rfl, by decide, .inl T.g_ShelfError⟩) (fun _ _ _ _ _ _ _ => (pss_one (ps_ret pe_str))) (Clauses.cons (.one ⟨by rfl, by decide, .inr ⟨T.z_KeyError, (show bootBuiltins "KeyError" = some (.type "KeyError") by decide +kernel), by decide⟩⟩) (fun _ _ _ _ _ _ _ => (pss_one (ps_ret pe_str))) (Clauses.cons (.two ⟨by rfl, by decide, .inl T.g_UnknownKey⟩ ⟨by rfl, by decide, .inl T.g_NothingToUndo⟩) (fun _ _ _ _ _ _ _ => (pss_one (ps_ret pe_str))) (Clauses.cons (.two ⟨by rfl, by decide, .inl T.g_TooMany⟩ ⟨by rfl, by decide, .inl T.g_InvalidNumber⟩) (fun _ _ _ _ _ _ _ => (pss_one (ps_ret pe_str))) Clauses.nil)))))
      (pss_one (ps_ret pe_str))), ?_⟩
    dsimp only [tRet, tSeq, tIfS, tAsg, tDrop, tCB, tCons, tNil, tCall, tTest, tB, tAnd, tOr, tNot, tAndV, tOrV, tNotV, tIf, tOp, tUn, tC, tTup, tLst, tNext, tSl, tPart, tNoPart, tPar, gName_app, List.map_cons, List.map_nil]
    refine ⟨_, rfl, _, rfl, k, v, rfl, fun dx hn σ => ?_⟩
    have hk8 : k = 0 ∨ k = 1 ∨ k = 2 ∨ k = 3 ∨ k = 4 ∨ k = 5 ∨ k = 6 ∨ k = 7 := by omega
    rcases hk8 with rfl | rfl | rfl | rfl | rfl | rfl | rfl | rfl
    · exact ⟨_, exm_own1 T.k_ParseError T.k_ShelfError, (fun _ a _ => q _ (Ext.nw hn)), nf yes_ref2⟩
    · exact ⟨_, exm_own1 T.k_Stopped T.k_ShelfError, (fun _ a _ => q _ (Ext.nw hn)), nf yes_ref2⟩
    · exact ⟨_, exm_own1 T.k_Wrong T.k_ShelfError, (fun _ a _ => q _ (Ext.nw hn)), nf yes_ref2⟩
    · refine ⟨_, exm_own1 T.k_UnknownName T.k_ShelfError, nt (no_ref (nd_ne T.nd 17 0 rfl rfl (by decide)) (by rfl)), fun _ => ?_⟩
      exact ⟨_, exm_type1 T.k_UnknownName (by decide +kernel) (by decide +kernel), (fun _ a _ => q _ (Ext.nw hn)), nf (by rfl)⟩
    · refine ⟨_, exm_own1 T.k_UnknownKey T.k_ShelfError, nt (no_ref (nd_ne T.nd 18 0 rfl rfl (by decide)) (by rfl)), fun _ => ?_⟩
      refine ⟨_, exm_type1 T.k_UnknownKey (by decide +kernel) (by decide +kernel), nt (by rfl), fun _ => ?_⟩
      exact ⟨_, exm_two1 (exm_own1 T.k_UnknownKey T.k_UnknownKey) (exm_own1 T.k_UnknownKey T.k_NothingToUndo), (fun _ a _ => q _ (Ext.nw hn)), nf (or_t1 yes_ref)⟩
    · refine ⟨_, exm_own1 T.k_NothingToUndo T.k_ShelfError, nt (no_ref (nd_ne T.nd 19 0 rfl rfl (by decide)) (by rfl)), fun _ => ?_⟩
      refine ⟨_, exm_type1 T.k_NothingToUndo (by decide +kernel) (by decide +kernel), nt (by rfl), fun _ => ?_⟩
      exact ⟨_, exm_two1 (exm_own1 T.k_NothingToUndo T.k_UnknownKey) (exm_own1 T.k_NothingToUndo T.k_NothingToUndo), (fun _ a _ => q _ (Ext.nw hn)), nf (or_t2 yes_ref)⟩
    · refine ⟨_, exm_own1 T.k_TooMany T.k_ShelfError, nt (no_ref (nd_ne T.nd 20 0 rfl rfl (by decide)) (by rfl)), fun _ => ?_⟩
      refine ⟨_, exm_type1 T.k_TooMany (by decide +kernel) (by decide +kernel), nt (by rfl), fun _ => ?_⟩
      refine ⟨_, exm_two1 (exm_own1 T.k_TooMany T.k_UnknownKey) (exm_own1 T.k_TooMany T.k_NothingToUndo), nt (or_ff (no_ref (nd_ne T.nd 20 18 rfl rfl (by decide)) (by rfl)) (no_ref (nd_ne T.nd 20 19 rfl rfl (by decide)) (by rfl))), fun _ => ?_⟩
      exact ⟨_, exm_two1 (exm_own1 T.k_TooMany T.k_TooMany) (exm_own1 T.k_TooMany T.k_InvalidNumber), (fun _ a _ => q _ (Ext.nw hn)), nf (or_t1 yes_ref)⟩
    · refine ⟨_, exm_own1 T.k_InvalidNumber T.k_ShelfError, nt (no_ref (nd_ne T.nd 21 0 rfl rfl (by decide)) (by rfl)), fun _ => ?_⟩
      refine ⟨_, exm_type1 T.k_InvalidNumber (by decide +kernel) (by decide +kernel), nt (by rfl), fun _ => ?_⟩
      refine ⟨_, exm_two1 (exm_own1 T.k_InvalidNumber T.k_UnknownKey) (exm_own1 T.k_InvalidNumber T.k_NothingToUndo), nt (or_ff (no_ref (nd_ne T.nd 21 18 rfl rfl (by decide)) (by rfl)) (no_ref (nd_ne T.nd 21 19 rfl rfl (by decide)) (by rfl))), fun _ => ?_⟩
      exact ⟨_, exm_two1 (exm_own1 T.k_InvalidNumber T.k_TooMany) (exm_own1 T.k_InvalidNumber T.k_InvalidNumber), (fun _ a _ => q _ (Ext.nw hn)), nf (or_t2 yes_ref)⟩
theorem ok_word {A : Adr} (T : Txt P K mg A) : FnOk P w K mg base CX0 2 A.f_word A.o_word P_word (spGen (fun d => ∃ z, d = .str z ∧ Wd 10 z)) := by
  refine T.d_word.F.ok sc_word (fun vs H Q E h => ?_) (fun cdv Ar outer s H vs Q E hr h => ?_)
  · obtain ⟨D, S, rfl, _⟩ := h
    rfl
  · obtain ⟨D, S, rfl, dc, hS, q⟩ := h
    refine ⟨_, (pss_cons (ps_set (i := 1) sc_word.nd rfl (by first | exact Or.inl rfl | exact Or.inr rfl) pe_str)
      (pss_one (ps_ret (pe_join pe_str (pe_lc (own := [("_law_turn", 2)]) (g := gName 2) (tt := tYes) (by rfl) sc_word.nd (pi_range1 (by rfl) T.z_range (pa_cons (pe_call (ok_roll T) (hr.mono (by decide)) (by rfl) T.d_roll.g T.d_roll.F.kp T.d_roll.b .nil pass0 (pa_cons (pv 0) (pa_cons pe_int pa_nil))) pa_nil)) (blkOk_by (own := [("_law_turn", 2)]) (N := N_word) (sc := defScope s_word) (by decide +kernel)) (fun _ _ _ _ _ => pg_name (i := 2) sc_word.nd rfl (Or.inl rfl)) (fun _ _ _ _ _ => pts_nil) (fun _ _ _ _ _ => (pe_ix ix_str (pv 1) (pe_call (ok_roll T) (hr.mono (by decide)) (by rfl) T.d_roll.g T.d_roll.F.kp T.d_roll.b .nil pass0 (pa_cons (pv 0) (pa_cons (pe_callB (show CallR _ _ (fun xs H Q => ∃ x n, xs = [x] ∧ LenV K x H n ∧ Q (.int n) H) from call_len) (by rfl) T.z_len PySem.boot_len (pa_cons (pv 1) pa_nil)) pa_nil))) (fun _ _ => rfl)))))))), ?_⟩
    dsimp only [tRet, tSeq, tIfS, tAsg, tDrop, tCB, tCons, tNil, tCall, tTest, tB, tAnd, tOr, tNot, tAndV, tOrV, tNotV, tIf, tOp, tUn, tC, tTup, tLst, tNext, tSl, tPart, tNoPart, tPar, gName_app, List.map_cons, List.map_nil]
    refine ⟨⟨_, rfl⟩, ?_⟩
    refine lcR_gen (D := D) (S := [D]) (fun n => n < 10) (fun _ v => ∃ c, v = .str ⟨#[c]⟩ ∧ c < 1000) (fun _ _ _ _ h => h) (Hid.one dc) (fun R r => ⟨_, rfl, D, 10, rfl, dc, by decide, rb (by decide), fun n H2 a0 a1 g => r n H2 a0 (by omega) a1 g⟩) (fun _ => rfl)
      (fun v S2 H2 R g2 hS2 r => ⟨_, rfl, _, rfl, _, rfl, _, sgnS.length, rfl, ⟨le_line (by decide +kernel), rfl⟩, D, (sgnS.length : Int), rfl, g2.dc, by decide +kernel, rb (by decide +kernel), fun r1 H3 a0 a1 g3 => ?_⟩) (fun m L H2 xs _ _ hn g2 hx hlen hall => ?_)
    · obtain ⟨c, hc, cl⟩ := sign_at (z := sgnS) (by decide +kernel) a0 a1
      exact ⟨sgnS, r1, c, rfl, rfl, le_line (by decide +kernel), hc, r _ H3 g3 ⟨c, rfl, cl⟩⟩
    · obtain ⟨ys, rfl, hy, hsum⟩ := strs_of hall
      rw [List.length_map] at hlen
      refine ⟨_, L, ys, rfl, rfl, .inl (SqL.of hx), ?_, ?_⟩
      · rw [hsum, show (Str.ofString "").length = 0 by decide +kernel]
        omega
      · have wj := wd_join hy
        rw [TL.join_eq]
        have wj : Wd 10 (Str.join (Str.ofString "") ys) := ⟨Nat.le_trans wj.ln (by omega), wj.cs⟩
        exact q _ _ H2 ⟨_, rfl, wj⟩ g2 (.str _)
theorem ok_value {A : Adr} (T : Txt P K mg A) : FnOk P w K mg base CX0 3 A.f_value A.o_value P_value (spValue) := by
  refine T.d_value.F.ok sc_value (fun vs H Q E h => ?_) (fun cdv Ar outer s H vs Q E hr h => ?_)
  · obtain ⟨D, k, rfl, _⟩ := h
    rfl
  · obtain ⟨D, k, rfl, dc, q⟩ := h
    refine ⟨_, (pss_cons (ps_set (i := 2) sc_value.nd rfl (by first | exact Or.inl rfl | exact Or.inr rfl) (pe_op op_add (pe_call (ok_pick T) (hr.mono (by decide)) (by rfl) T.d_pick.g T.d_pick.F.kp T.d_pick.b .nil pass0 (pa_cons (pv 0) (pa_cons (pe_lst (pa_cons pe_int (pa_cons pe_int (pa_cons pe_int (pa_cons pe_int (pa_cons pe_int (pa_cons pe_int (pa_cons (pe_op op_powW pe_int pe_int) pa_nil)))))))) pa_nil))) (pe_call (ok_roll T) (hr.mono (by decide)) (by rfl) T.d_roll.g T.d_roll.F.kp T.d_roll.b .nil pass0 (pa_cons (pv 0) (pa_cons pe_int pa_nil)))))
      (pss_cons (ps_if (pt_cmpR op_eq (pv 1) pe_int (nomark _)) (pss_one (ps_ret (pe_call (ok_pick T) (hr.mono (by decide)) (by rfl) T.d_pick.g T.d_pick.F.kp T.d_pick.b .nil pass0 (pa_cons (pv 0) (pa_cons (pe_lst (pa_cons pe_non (pa_cons (pv 2) pa_nil))) pa_nil))))) pss_nil)
      (pss_cons (ps_if (pt_cmpR op_eq (pv 1) pe_int (nomark _)) (pss_one (ps_ret (pe_tup (pa_cons pe_str (pa_cons (pe_tup (pa_cons (pe_tup (pa_cons pe_str (pa_cons pe_str (pa_cons (pe_tup (pa_cons (pv 2) pa_nil)) pa_nil)))) (pa_cons (pe_tup (pa_cons pe_str (pa_cons pe_int pa_nil))) pa_nil))) pa_nil))))) pss_nil)
      (pss_cons (ps_if (pt_cmpR op_in_seq (pv 1) (pe_tup (pa_cons pe_int (pa_cons pe_int (pa_cons pe_int pa_nil)))) (by rfl)) (pss_one (ps_ret (pe_call (ok_pick T) (hr.mono (by decide)) (by rfl) T.d_pick.g T.d_pick.F.kp T.d_pick.b .nil pass0 (pa_cons (pv 0) (pa_cons (pe_lst (pa_cons pe_non (pa_cons (pv 2) (pa_cons (pe_op op_sub pe_int (pv 2)) (pa_cons (pe_call (ok_word T) (hr.mono (by decide)) (by rfl) T.d_word.g T.d_word.F.kp T.d_word.b .nil pass0 (pa_cons (pv 0) pa_nil)) (pa_cons pe_bl (pa_cons (pe_tup pa_nil) (pa_cons (pe_tup (pa_cons (pe_call (ok_word T) (hr.mono (by decide)) (by rfl) T.d_word.g T.d_word.F.kp T.d_word.b .nil pass0 (pa_cons (pv 0) pa_nil)) (pa_cons (pv 2) pa_nil))) pa_nil)))))))) pa_nil))))) pss_nil)
      (pss_one (ps_ret (pv 2))))))), ?_⟩
    refine ⟨_, rfl, _, _, rfl, rfl, ⟨by decide, by decide +kernel⟩, le_line (by decide), fun p hp => ⟨D, p, _, rfl, (Ext.nw hp).dc dc, upd_same, dc.ne hp, (fun z => nomatch z), (by decide), fun v H1 hv g1 => ?_⟩⟩
    obtain ⟨w, hw, rfl⟩ := mem_ints (ns := [0, 1, 7, 100, 2000, 20000, 10 ^ Int.toNat 59]) hv
    have hw : w.natAbs ≤ 10 ^ 59 := (show ∀ n ∈ ([0, 1, 7, 100, 2000, 20000, 10 ^ Int.toNat 59] : List Int), n.natAbs ≤ 10 ^ 59 by decide +kernel) w hw
    have g1 := (Ge.of (Ext.nw hp) dc).tr g1
    refine ⟨_, rfl, D, 3, rfl, g1.dc, by decide, rb (by decide), fun r H2 a0 a1 g2 => ⟨_, _, rfl, rfl, ?_⟩⟩
    have g2 := g1.tr g2
    have hn : (w + r).natAbs < Big := by
      have : (10 : Nat) ^ 59 + 3 < Big := by decide +kernel
      omega
    change gName 2 (V.int (w + r)) _ _ _
    generalize w + r = n at hn ⊢
    dsimp only [tRet, tSeq, tAsg, tIfS, tNext, gName_app]
    refine ⟨_, rfl, rfl, _, rfl, ite_b (fun _ => ?_) (fun _ => ?_)⟩
    · refine ⟨_, rfl, _, rfl, le_line (by simp), fun p2 n2 => ⟨D, p2, _, rfl, (Ext.nw n2).dc g2.dc, upd_same, g2.dc.ne n2, (fun z => nomatch z), (by simp), fun v H3 hv g3 => ?_⟩⟩
      have g3 := g2.tr ((Ge.of (Ext.nw n2) g2.dc).tr g3)
      rcases List.mem_cons.mp hv with rfl | hv
      · exact q _ _ H3 (good_am fl_none.am) g3 .non
      · obtain rfl := List.mem_singleton.mp hv
        exact q _ _ H3 (good_am (fl_int hn).am) g3 (.int n)
    · refine ⟨_, rfl, rfl, _, rfl, ite_b (fun _ => ?_) (fun _ => ?_)⟩
      · exact (evd_tup (evda_cons evd_str (evda_cons (evd_tup (evda_cons (evd_tup (evda_cons evd_str (evda_cons evd_str (evda_cons (evd_tup (evda_cons (evd_var (by rfl) (.int n)) evda_nil) (by simp)) evda_nil))) (by simp)) (evda_cons (evd_tup (evda_cons evd_str (evda_cons evd_int evda_nil)) (by simp)) evda_nil)) (by simp)) evda_nil)) (by simp) : EvD _ _ _ (ceD n)) H2 Ext.rfl' _ fun v H3 e d3 => q v _ H3 (ce_good hn) (g2.more e) d3
      · refine ⟨_, rfl, le_line (by simp), fun p3 n3 => ⟨p3, _, rfl, .inr (SqT.of upd_same), rfl, rfl, _, rfl, ite_b (fun _ => ?_) (fun _ => ?_)⟩⟩
        · have g3 := g2.nw (o := HO.tup [V.int 3, V.int 4, V.int 7]) n3
          refine ⟨_, rfl, _, rfl, _, rfl, _, _, rfl, rfl, ?_⟩
          refine ⟨_, rfl, D, [D], rfl, g3.dc, Hid.one g3.dc, fun v4 d4 H4 hd4 g4 q4 => ?_⟩
          obtain ⟨z4, rfl, w4⟩ := hd4
          obtain rfl := dq_strv q4
          have g4 := g3.tr g4
          refine ⟨Nat.zero_le _, fun p5 n5 => ?_⟩
          have g5 := g4.nw (o := HO.tup []) n5
          have e5 := g4.dc.ne n5
          refine ⟨_, rfl, D, [D], rfl, g5.dc, Hid.one g5.dc, fun v6 d6 H6 hd6 g6 q6 => ?_⟩
          obtain ⟨z6, rfl, w6⟩ := hd6
          obtain rfl := dq_strv q6
          have h5 := g6.kp p5 _ e5 upd_same
          have g6 := g5.tr g6
          refine ⟨_, rfl, le_line (by simp), fun p7 n7 => ⟨le_line (by simp), fun p8 n8 => ?_⟩⟩
          have g7 := g6.nw (o := HO.tup [V.str z6, V.int n]) n7
          have e7 := g6.dc.ne n7
          have g8 := g7.nw (o := HO.lst [V.non, V.int n, V.int (0 - n), V.str z4, V.bl true, V.ref p5, V.ref p7]) n8
          refine ⟨D, p8, _, rfl, g8.dc, upd_same, g7.dc.ne n8, (fun z => nomatch z), (by simp), fun v H9 hv g9 => ?_⟩
          have h5 := g9.kp p5 _ e5 ((Ext.nw n8) _ _ ((Ext.nw n7) _ _ h5))
          have h7 := g9.kp p7 _ e7 ((Ext.nw n8) _ _ upd_same)
          have g9 := g8.tr g9
          rcases List.mem_cons.mp hv with rfl | hv
          · exact q _ _ H9 (good_am fl_none.am) g9 .non
          rcases List.mem_cons.mp hv with rfl | hv
          · exact q _ _ H9 (good_am (fl_int hn).am) g9 (.int n)
          rcases List.mem_cons.mp hv with rfl | hv
          · exact q _ _ H9 (good_am (fl_int (i := 0 - n) (by omega)).am) g9 (.int _)
          rcases List.mem_cons.mp hv with rfl | hv
          · exact q _ _ H9 (good_am (wd_am w4)) g9 (.str z4)
          rcases List.mem_cons.mp hv with rfl | hv
          · exact q _ _ H9 (good_am (am_of (d := .bool true) (by decide +kernel))) g9 (.bl true)
          rcases List.mem_cons.mp hv with rfl | hv
          · exact q _ _ H9 (good_am (am_of (d := .tuple []) (by decide +kernel))) g9 (.tup h5 .nil)
          obtain rfl := List.mem_singleton.mp hv
          refine q _ (.tuple [.str z6, .int n]) H9 (good_tup (fun a ha => ?_) (by simp) (fun _ => rfl)) g9 (.tup h7 (.cons (.str z6) (.cons (.int n) .nil)))
          rcases List.mem_cons.mp ha with rfl | ha
          · exact wd_am w6
          · obtain rfl := List.mem_singleton.mp ha
            exact (fl_int hn).am
        · exact ⟨_, rfl, q _ _ _ (good_am (fl_int hn).am) (g2.nw n3) (.int n)⟩
/-! ### classes by number -/
def ixA (i : Nat) : Nat := if i = 13 then 0 else i + 1
theorem atA {A : Adr} {i : Nat} (h : i < 14) : ([A.c_ShelfError, A.c_InvalidTable, A.c_InvalidRow, A.c_InvalidBag, A.c_InvalidQuery, A.c_InvalidStore, A.c_InvalidStep, A.c_InvalidPlan, A.c_InvalidTransition, A.c_InvalidScheme, A.c_InvalidEvent, A.c_InvalidSnapshot, A.c_InvalidTree, A.c_InvalidOperation, A.c_ParseError, A.c_Stopped, A.c_Wrong, A.c_UnknownName, A.c_UnknownKey, A.c_NothingToUndo, A.c_TooMany, A.c_InvalidNumber] : List Addr)[ixA i]? = some (clsA A i) := by
  have : i = 0 ∨ i = 1 ∨ i = 2 ∨ i = 3 ∨ i = 4 ∨ i = 5 ∨ i = 6 ∨ i = 7 ∨ i = 8 ∨ i = 9 ∨ i = 10 ∨ i = 11 ∨ i = 12 ∨ i = 13 := by omega
  rcases this with rfl | rfl | rfl | rfl | rfl | rfl | rfl | rfl | rfl | rfl | rfl | rfl | rfl | rfl <;> rfl
theorem atB {A : Adr} {i : Nat} (h : i < 8) : ([A.c_ShelfError, A.c_InvalidTable, A.c_InvalidRow, A.c_InvalidBag, A.c_InvalidQuery, A.c_InvalidStore, A.c_InvalidStep, A.c_InvalidPlan, A.c_InvalidTransition, A.c_InvalidScheme, A.c_InvalidEvent, A.c_InvalidSnapshot, A.c_InvalidTree, A.c_InvalidOperation, A.c_ParseError, A.c_Stopped, A.c_Wrong, A.c_UnknownName, A.c_UnknownKey, A.c_NothingToUndo, A.c_TooMany, A.c_InvalidNumber] : List Addr)[i + 14]? = some (clsB A i) := by
  have : i = 0 ∨ i = 1 ∨ i = 2 ∨ i = 3 ∨ i = 4 ∨ i = 5 ∨ i = 6 ∨ i = 7 := by omega
  rcases this with rfl | rfl | rfl | rfl | rfl | rfl | rfl | rfl <;> rfl
def mA (A : Adr) (i : Nat) : List Value := if i = 13 then veMro else .ref (clsA A 13) :: veMro
def mB (A : Adr) : Nat → List Value
  | 0 => .ref (clsA A 13) :: veMro
  | 1 => .ref (clsA A 13) :: veMro
  | 2 => .ref (clsA A 13) :: veMro
  | 3 => [.type "KeyError", .type "LookupError", .type "Exception", .type "BaseException", .type "object"]
  | 4 => [.type "IndexError", .type "LookupError", .type "Exception", .type "BaseException", .type "object"]
  | 5 => [.type "LookupError", .type "Exception", .type "BaseException", .type "object"]
  | 6 => [.type "OverflowError", .type "ArithmeticError", .type "Exception", .type "BaseException", .type "object"]
  | _ => [.type "RuntimeError", .type "Exception", .type "BaseException", .type "object"]
theorem kA {A : Adr} (T : Txt P K mg A) {i : Nat} (h : i < 14) : ErrK K (clsA A i) (mA A i) := by
  have : i = 0 ∨ i = 1 ∨ i = 2 ∨ i = 3 ∨ i = 4 ∨ i = 5 ∨ i = 6 ∨ i = 7 ∨ i = 8 ∨ i = 9 ∨ i = 10 ∨ i = 11 ∨ i = 12 ∨ i = 13 := by omega
  rcases this with rfl | rfl | rfl | rfl | rfl | rfl | rfl | rfl | rfl | rfl | rfl | rfl | rfl | rfl
  · exact T.k_InvalidTable
  · exact T.k_InvalidRow
  · exact T.k_InvalidBag
  · exact T.k_InvalidQuery
  · exact T.k_InvalidStore
  · exact T.k_InvalidStep
  · exact T.k_InvalidPlan
  · exact T.k_InvalidTransition
  · exact T.k_InvalidScheme
  · exact T.k_InvalidEvent
  · exact T.k_InvalidSnapshot
  · exact T.k_InvalidTree
  · exact T.k_InvalidOperation
  · exact T.k_ShelfError
theorem kB {A : Adr} (T : Txt P K mg A) {i : Nat} (h : i < 8) : ErrK K (clsB A i) (mB A i) := by
  have : i = 0 ∨ i = 1 ∨ i = 2 ∨ i = 3 ∨ i = 4 ∨ i = 5 ∨ i = 6 ∨ i = 7 := by omega
  rcases this with rfl | rfl | rfl | rfl | rfl | rfl | rfl | rfl
  · exact T.k_ParseError
  · exact T.k_Stopped
  · exact T.k_Wrong
  · exact T.k_UnknownName
  · exact T.k_UnknownKey
  · exact T.k_NothingToUndo
  · exact T.k_TooMany
  · exact T.k_InvalidNumber
theorem neA {A : Adr} (T : Txt P K mg A) {i j : Nat} (hi : i < 14) (hj : j < 14) (n : i ≠ j) : clsA A i ≠ clsA A j := nd_ne T.nd _ _ (atA hi) (atA hj) (by unfold ixA; split <;> split <;> omega)
theorem neB {A : Adr} (T : Txt P K mg A) {i j : Nat} (hi : i < 8) (hj : j < 8) (n : i ≠ j) : clsB A i ≠ clsB A j := nd_ne T.nd _ _ (atB hi) (atB hj) (by omega)
theorem neAB {A : Adr} (T : Txt P K mg A) {i j : Nat} (hi : i < 14) (hj : j < 8) : clsA A i ≠ clsB A j := nd_ne T.nd _ _ (atA hi) (atB hj) (by unfold ixA; split <;> omega)
theorem ve_no {c : Addr} : veMro.contains (.ref c) = false := rfl
theorem mA_no {A : Adr} {i : Nat} {c : Addr} (h : clsA A 13 ≠ c) : (mA A i).contains (.ref c) = false := by
  unfold mA
  split
  · exact ve_no
  · exact no_ref h ve_no
theorem inAA {A : Adr} (T : Txt P K mg A) {i j : Nat} (hi : i < 14) (hj : j < 14) : (Value.ref (clsA A i) :: mA A i).contains (.ref (clsA A j)) = [i, 13].contains j := by
  by_cases e : j = i
  · subst e
    rw [yes_ref]
    simp
  · by_cases f : j = 13
    · subst f
      rw [List.contains_cons]
      unfold mA
      rw [if_neg (fun z => e z.symm), yes_ref, Bool.or_true]
      simp
    · rw [no_ref (neA T hi hj (fun z => e z.symm)) (mA_no (neA T (by omega) hj (fun z => f z.symm)))]
      simp [e, f]
theorem inAB {A : Adr} (T : Txt P K mg A) {i j : Nat} (hi : i < 14) (hj : j < 8) : (Value.ref (clsA A i) :: mA A i).contains (.ref (clsB A j)) = false :=
  no_ref (neAB T hi hj) (mA_no (neAB T (by omega) hj))
theorem mB_no {A : Adr} {i : Nat} {c : Addr} (h : clsA A 13 ≠ c) : (mB A i).contains (.ref c) = false := by
  unfold mB
  split <;> first | exact no_ref h ve_no | rfl
theorem inBB {A : Adr} (T : Txt P K mg A) {i j : Nat} (hi : i < 8) (hj : j < 8) : (Value.ref (clsB A i) :: mB A i).contains (.ref (clsB A j)) = [i].contains j := by
  by_cases e : j = i
  · subst e
    rw [yes_ref]
    simp
  · rw [no_ref (neB T hi hj (fun z => e z.symm)) (mB_no (neAB T (by omega) hj))]
    simp [e]
theorem inBA {A : Adr} (T : Txt P K mg A) {i j : Nat} (hi : i < 8) (hj : j < 14) : (Value.ref (clsB A i) :: mB A i).contains (.ref (clsA A j)) = (decide (j = 13) && decide (i < 3)) := by
  have n : clsB A i ≠ clsA A j := (neAB T hj hi).symm
  have z : (Value.ref (clsB A i) :: mB A i).contains (.ref (clsA A j)) = (mB A i).contains (.ref (clsA A j)) := by
    rw [List.contains_cons, beq_eq_false_iff_ne.mpr (fun e => n (Value.ref.inj e).symm), Bool.false_or]
  rw [z]
  by_cases f : j = 13
  · subst f
    have : i = 0 ∨ i = 1 ∨ i = 2 ∨ i = 3 ∨ i = 4 ∨ i = 5 ∨ i = 6 ∨ i = 7 := by omega
    rcases this with rfl | rfl | rfl | rfl | rfl | rfl | rfl | rfl <;> first | exact yes_ref | rfl
  · rw [mB_no (neA T (by omega) hj (fun z => f z.symm))]
    simp [f]
def pyB : Nat → List Nat
  | 3 => [1, 3] | 4 => [2, 3] | 5 => [3] | 6 => [4, 5] | 7 => [6] | _ => [0]
theorem dataA {A : Adr} (T : Txt P K mg A) {i : Nat} (h : i < 14) : (csA A).map (fun c => PyData.bool ((Value.ref (clsA A i) :: mA A i).contains c)) = (List.range 14).map fun j => PyData.bool ([i, 13].contains j) := by
  show ((List.range 14).map fun j => Value.ref (clsA A j)).map _ = _
  rw [List.map_map]
  exact List.map_congr_left fun j hj => congrArg PyData.bool (inAA T h (List.mem_range.mp hj))
theorem dataAB {A : Adr} (T : Txt P K mg A) {i : Nat} (h : i < 14) : (csB A).map (fun c => PyData.bool ((Value.ref (clsA A i) :: mA A i).contains c)) = List.replicate 8 (PyData.bool false) := by
  show ((List.range 8).map fun j => Value.ref (clsB A j)).map _ = (List.range 8).map fun _ => PyData.bool false
  rw [List.map_map]
  exact List.map_congr_left fun j hj => congrArg PyData.bool (inAB T h (List.mem_range.mp hj))
theorem dataAP {A : Adr} {i : Nat} (h : i < 14) : csP.map (fun c => PyData.bool ((Value.ref (clsA A i) :: mA A i).contains c)) = (List.range 7).map fun j => PyData.bool ([0].contains j) := by
  unfold mA
  split <;> rfl
theorem dataBB {A : Adr} (T : Txt P K mg A) {i : Nat} (h : i < 8) : (csB A).map (fun c => PyData.bool ((Value.ref (clsB A i) :: mB A i).contains c)) = (List.range 8).map fun j => PyData.bool ([i].contains j) := by
  show ((List.range 8).map fun j => Value.ref (clsB A j)).map _ = _
  rw [List.map_map]
  exact List.map_congr_left fun j hj => congrArg PyData.bool (inBB T h (List.mem_range.mp hj))
theorem dataBA {A : Adr} (T : Txt P K mg A) {i : Nat} (h : i < 8) : (csA A).map (fun c => PyData.bool ((Value.ref (clsB A i) :: mB A i).contains c)) = List.replicate 13 (PyData.bool false) ++ [PyData.bool (decide (i < 3))] := by
  have : (csA A).map (fun c => PyData.bool ((Value.ref (clsB A i) :: mB A i).contains c)) = (List.range 14).map fun j => PyData.bool (decide (j = 13) && decide (i < 3)) := by
    show ((List.range 14).map fun j => Value.ref (clsA A j)).map _ = _
    rw [List.map_map]
    exact List.map_congr_left fun j hj => congrArg PyData.bool (inBA T h (List.mem_range.mp hj))
  rw [this]
  by_cases e : i < 3 <;> simp [e, List.range_succ] <;> rfl
theorem dataBP {A : Adr} {i : Nat} (h : i < 8) : csP.map (fun c => PyData.bool ((Value.ref (clsB A i) :: mB A i).contains c)) = (List.range 7).map fun j => PyData.bool ((pyB i).contains j) := by
  have : i = 0 ∨ i = 1 ∨ i = 2 ∨ i = 3 ∨ i = 4 ∨ i = 5 ∨ i = 6 ∨ i = 7 := by omega
  rcases this with rfl | rfl | rfl | rfl | rfl | rfl | rfl | rfl <;> rfl
theorem eqv_bls : ∀ {ds : List PyData}, (∀ d ∈ ds, ∃ b, d = .bool b) → PyData.eqv (.list ds) (.list ds) = true
  | [], _ => rfl
  | d :: r, h => by
    obtain ⟨b, rfl⟩ := h d List.mem_cons_self
    have ih := eqv_bls (ds := r) fun x hx => h x (List.mem_cons_of_mem _ hx)
    show ((b == b) && PyData.eqvAll r r) = true
    rw [beq_self_eq_true, Bool.true_and]
    exact ih
theorem bls_map {α : Type} (f : α → Bool) (l : List α) : ∀ d ∈ l.map (fun j => PyData.bool (f j)), ∃ b, d = .bool b := fun d hd => by
  obtain ⟨j, _, rfl⟩ := List.mem_map.mp hd
  exact ⟨_, rfl⟩
theorem bls_rep (n : Nat) (b : Bool) : ∀ d ∈ List.replicate n (PyData.bool b), ∃ b, d = .bool b := fun d hd => ⟨b, List.eq_of_mem_replicate hd⟩
theorem nd_bls : ∀ {ds : List PyData}, (∀ d ∈ ds, ∃ b, d = .bool b) → PyData.hasDict (.list ds) = false
  | [], _ => rfl
  | d :: r, h => by
    obtain ⟨b, rfl⟩ := h d List.mem_cons_self
    exact nd_bls (ds := r) fun x hx => h x (List.mem_cons_of_mem _ hx)
/-! ### what comes to data -/
theorem lay_bls : ∀ {ds : List PyData}, (∀ d ∈ ds, ∃ b, d = .bool b) → PyData.canLayAll0 ds = true
  | [], _ => rfl
  | d :: r, h => by
    obtain ⟨b, rfl⟩ := h d List.mem_cons_self
    exact lay_bls (ds := r) fun x hx => h x (List.mem_cons_of_mem _ hx)
theorem shaped_bls {ds : List PyData} (h : ∀ d ∈ ds, ∃ b, d = .bool b) : SeqAt.shaped (.list ds) = true := by
  show (PyData.canLayAll0 ds && decide (PyData.depth (.list ds) ≤ 64)) = true
  have h2 : PyData.depthAll ds ≤ 0 := dp_all fun a ha => by
    obtain ⟨b, rfl⟩ := h a ha
    exact Nat.le_refl _
  have h3 : PyData.depth (.list ds) ≤ 64 := by
    simp only [PyData.depth]
    omega
  rw [lay_bls h, decide_eq_true h3]
  rfl
theorem dqa_ints {H : Hp} : ∀ {xs : List V} {is : List Nat}, DqAll H xs (is.map fun i => PyData.int ((i : Nat) : Int)) → xs = is.map fun i => V.int ((i : Nat) : Int)
  | _, [], .nil => rfl
  | _, i :: r, .cons h t => by
    cases h
    rw [dqa_ints t]
    rfl
theorem dqa_repF {H : Hp} : ∀ n : Nat, DqAll H (List.replicate n (V.bl false)) (List.replicate n (PyData.bool false))
  | 0 => .nil
  | n + 1 => .cons (.bl false) (dqa_repF n)
section
variable {σ : L2.St} {H : Hp} {ta tb te : TE} {ds : List PyData} {a D : Addr} {m cs : List Value} {j : Nat}
theorem evd_kinds (h0 : σ[j]? = some (some (.ref a))) (ea : ErrAt H a D) (k : ErrK K D m) (hc : cs.map (fun c => PyData.bool ((Value.ref D :: m).contains c)) = ds) :
    EvD (tCall (spKinds K cs) [] E0 (tCons (tVar j) tNil)) σ H (.list ds) := fun H1 e Q q => ⟨_, h0, a, D, m, rfl, errAt_ext ea e, k, fun v H2 e2 d => q v H2 e2 (hc ▸ d)⟩
theorem evd_only {is : List Nat} {n : Nat} (ht : EvD te σ H (.tuple (is.map fun i => PyData.int ((i : Nat) : Int)))) (hz : n ≤ 100000) :
    EvD (tCall spOnly [] E0 (tCons te (tCons (tC (.int (n : Int))) tNil))) σ H (.list ((List.range n).map fun j => .bool (is.contains j))) := fun H1 e Q q => ht H1 e _ fun v H2 e2 d2 => by
  cases d2 with
  | tup h1 h2 =>
    obtain rfl := dqa_ints h2
    exact ⟨_, n, is, rfl, h1, hz, fun v H3 e3 d3 => q v H3 (e2.tr e3) d3⟩
theorem evd_repF (n : Nat) (hn : n ≤ 1000) (hf : (List.replicate ((n : Nat) : Int).toNat [V.bl false]).flatten = List.replicate n (V.bl false)) :
    EvD (tOp rRep (tLst (tCons (tC (.bl false)) tNil)) (tC (.int (n : Int)))) σ H (.list (List.replicate n (PyData.bool false))) := fun H1 e Q q =>
  ⟨le_line (by simp), fun p hp => ⟨p, n, [.bl false], rfl, rfl, upd_same, by omega, by omega, le_line (by simp; omega), fun p2 n2 => q _ _ ((Ext.nw hp).tr (Ext.nw n2)) (.lst (xs := List.replicate n (V.bl false)) (by rw [upd_same, hf]) (dqa_repF n))⟩⟩
/-- two lists of answers, the same ones -/
theorem tt_same (ha : EvD ta σ H (.list ds)) (hb : EvD tb σ H (.list ds)) (hd : ∀ d ∈ ds, ∃ b, d = .bool b) {Qt : Bool → Hp → Prop} (k : ∀ H2, Ext H H2 → Qt false H2) : tTest (tOp (rNeD K) ta tb) σ H Qt :=
  ha H Ext.rfl' _ fun v H2 e2 d2 => hb H2 e2 _ fun u H3 e3 d3 => ⟨.list ds, .list ds, dq_dp (d2.ext e3) (nd_bls hd), dq_dp d3 (nd_bls hd), shaped_bls hd, shaped_bls hd, _, rfl, by rw [eqv_bls hd]; exact k H3 (e2.tr e3)⟩
theorem EvD.up {H2 : Hp} {d : PyData} (h : EvD te σ H d) (e : Ext H H2) : EvD te σ H2 d := fun H1 e1 Q q => h H1 (e.tr e1) Q q
end
mutual
theorem hide_flat {H : Hp} {D : Addr} (hD : ∀ xs, H D ≠ some (.tup xs)) : ∀ {v : V} {d : PyData}, Dq H v d → noList d = true → d.hasDict = false → Dq (hide H [D]) v d
  | _, _, .non, _, _ => .non
  | _, _, .bl b, _, _ => .bl b
  | _, _, .int i, _, _ => .int i
  | _, _, .str x, _, _ => .str x
  | _, _, .lst h r, e, _ => by simp [noList] at e
  | _, _, .tup (a := a) h r, e, f => .tup (by rw [hide_ne (fun z => hD _ ((List.mem_singleton.mp z) ▸ h))]; exact h) (hide_flats hD r (by simpa [noList] using e) (by simpa [PyData.hasDict] using f))
  | _, _, .dct h k r, _, e => by simp [PyData.hasDict] at e
theorem hide_flats {H : Hp} {D : Addr} (hD : ∀ xs, H D ≠ some (.tup xs)) : ∀ {vs : List V} {ds : List PyData}, DqAll H vs ds → noListA ds = true → PyData.hasDictAll ds = false → DqAll (hide H [D]) vs ds
  | _, _, .nil, _, _ => .nil
  | _, _, .cons h r, e, f => by
    simp only [PyData.hasDictAll, Bool.or_eq_false_iff] at f
    simp only [noListA, Bool.and_eq_true] at e
    exact .cons (hide_flat hD h e.1 f.1) (hide_flats hD r e.2 f.2)
end
theorem hide_lst {H : Hp} {D : Addr} {v : V} {ds : List PyData} (dc : Dc H D) (h : Dq H v (.list ds)) (hn : ds.length ≠ 3) (hl : noListA ds = true) (hd : PyData.hasDictAll ds = false) : Dq (hide H [D]) v (.list ds) := by
  obtain ⟨x, y, z, e⟩ := dc
  cases h with
  | @lst a xs _ h r =>
    refine .lst ?_ (hide_flats (fun ys q => by rw [e] at q; cases q) r hl hd)
    rw [hide_ne (fun q => ?_)]
    · exact h
    · rw [List.mem_singleton.mp q, e] at h
      cases h
      exact hn r.len.symm
theorem evd_ix {σ : L2.St} {H : Hp} {v : V} {ds : List PyData} {d : PyData} {j l i : Nat} (h0 : σ[j]? = some (some v)) (dq : Dq H v (.list ds)) (h1 : σ[l]? = some (some (.int (i : Int)))) (hd : ds[i]? = some d) :
    EvD (tOp (rIxL K) (tVar j) (tVar l)) σ H d := fun H1 e Q q => by
  cases dq.ext e with
  | @lst a xs _ h r =>
    have hi : i < xs.length := by
      rw [r.len]
      by_cases z : i < ds.length
      · exact z
      · rw [List.getElem?_eq_none (by omega)] at hd
        cases hd
    obtain ⟨d2, hd2, q2⟩ := r.at (List.getElem?_eq_getElem hi)
    rw [hd] at hd2
    cases hd2
    exact ⟨_, h0, _, h1, a, _, _, _, rfl, rfl, SqL.of h, atI_nat (List.getElem?_eq_getElem hi), q _ H1 Ext.rfl' q2⟩
def pyDs : List PyData := (List.range 8).map fun i => PyData.tuple ((pyB i).map fun j => PyData.int ((j : Nat) : Int))
def woDs : List PyData := (List.range 8).map fun i => PyData.str (wordB i)
theorem ne_dec {x : V} : (!decide (x = x)) = false := by rw [decide_eq_true rfl]; rfl
theorem shaped_word (i : Nat) : SeqAt.shaped (.str (wordB i)) = true := by
  unfold wordB
  split <;> decide +kernel
theorem ne_word (i : Nat) : (!PyData.eqv (.str (wordB i)) (.str (wordB i))) = false := by
  show (!(wordB i == wordB i)) = false
  rw [beq_self_eq_true]
  rfl
theorem evd_lt3 {σ : L2.St} {H : Hp} {i j : Nat} (h0 : σ[j]? = some (some (.int (i : Int)))) : EvD (tOp (rI0 fun i j => V.bl (decide (i < j))) (tVar j) (tC (.int 3))) σ H (.bool (decide (i < 3))) := fun H1 e Q q =>
  ⟨_, h0, _, _, rfl, rfl, by
    have : decide ((i : Int) < 3) = decide (i < 3) := by
      by_cases z : i < 3
      · rw [decide_eq_true z, decide_eq_true (by omega)]
      · rw [decide_eq_false z, decide_eq_false (by omega)]
    show Q (V.bl (decide ((i : Int) < 3))) H1
    rw [this]
    exact q _ H1 Ext.rfl' (.bl _)⟩
theorem bls_last (n : Nat) (b c : Bool) : ∀ d ∈ List.replicate n (PyData.bool b) ++ [PyData.bool c], ∃ b, d = .bool b := fun d hd => by
  rcases List.mem_append.mp hd with hd | hd
  · exact bls_rep n b d hd
  · exact ⟨c, List.mem_singleton.mp hd⟩
theorem ok_right {A : Adr} (T : Txt P K mg A) : FnG P w K mg base CX0 4 A.f_right A.o_right P_right (spTrue) := by
  refine okG T.d_right.F sc_right (fun vs H Q E h => ?_) (fun cdv Ar outer s H vs Q E cm hr h => ?_)
  · obtain ⟨D, rfl, _⟩ := h
    rfl
  · obtain ⟨D, rfl, dc, q⟩ := h
    refine ⟨_, (pss_cons (ps_for PassesOwn.never rfl (pi_range1 (by rfl) T.z_range (pa_cons pe_int pa_nil)) (pg_name (i := 1) sc_right.nd rfl (by first | exact Or.inl rfl | exact Or.inr rfl)) (pss_cons (ps_set (i := 2) sc_right.nd rfl (by first | exact Or.inl rfl | exact Or.inr rfl) (pe_call (ok_with_message T) (hr.mono (by decide)) (by rfl) T.d_with_message.g T.d_with_message.F.kp T.d_with_message.b .nil pass0 (pa_cons (pv 1) (pa_cons (pe_call (ok_word T) (hr.mono (by decide)) (by rfl) T.d_word.g T.d_word.F.kp T.d_word.b .nil pass0 (pa_cons (pv 0) pa_nil)) pa_nil))))
      (pss_cons (ps_if (PW.pt (pw_or (pt_cmpR (op_neD hr.units) (pe_call (ok_kinds T) (hr.mono (by decide)) (by rfl) T.d_kinds.g T.d_kinds.F.kp T.d_kinds.b .nil pass0 (pa_cons (pv 2) pa_nil)) (pe_call (ok_only T) (hr.mono (by decide)) (by rfl) T.d_only.g T.d_only.F.kp T.d_only.b .nil pass0 (pa_cons (pe_tup (pa_cons (pv 1) (pa_cons pe_int pa_nil))) (pa_cons pe_int pa_nil))) (nomark _)) (pw_or1 (pt_cmpR (op_neD hr.units) (pe_call (ok_kinds_kept T) (hr.mono (by decide)) (by rfl) T.d_kinds_kept.g T.d_kinds_kept.F.kp T.d_kinds_kept.b .nil pass0 (pa_cons (pv 2) pa_nil)) (pe_op op_rep (pe_lst (pa_cons pe_bl pa_nil)) pe_int) (nomark _))))) (pss_one (ps_ret pe_bl)) pss_nil)
      (pss_one (ps_if (pt_cmpR (op_neD hr.units) (pe_call (ok_kinds_of_python T) (hr.mono (by decide)) (by rfl) T.d_kinds_of_python.g T.d_kinds_of_python.F.kp T.d_kinds_of_python.b .nil pass0 (pa_cons (pv 2) pa_nil)) (pe_call (ok_only T) (hr.mono (by decide)) (by rfl) T.d_only.g T.d_only.F.kp T.d_only.b .nil pass0 (pa_cons (pe_tup (pa_cons pe_int pa_nil)) (pa_cons pe_int pa_nil))) (nomark _)) (pss_one (ps_ret pe_bl)) pss_nil)))))
      (pss_cons (ps_set (i := 3) sc_right.nd rfl (by first | exact Or.inl rfl | exact Or.inr rfl) (pe_lst (pa_cons (pe_tup (pa_cons pe_int pa_nil)) (pa_cons (pe_tup (pa_cons pe_int pa_nil)) (pa_cons (pe_tup (pa_cons pe_int pa_nil)) (pa_cons (pe_tup (pa_cons pe_int (pa_cons pe_int pa_nil))) (pa_cons (pe_tup (pa_cons pe_int (pa_cons pe_int pa_nil))) (pa_cons (pe_tup (pa_cons pe_int pa_nil)) (pa_cons (pe_tup (pa_cons pe_int (pa_cons pe_int pa_nil))) (pa_cons (pe_tup (pa_cons pe_int pa_nil)) pa_nil))))))))))
      (pss_cons (ps_set (i := 4) sc_right.nd rfl (by first | exact Or.inl rfl | exact Or.inr rfl) (pe_lst (pa_cons pe_str (pa_cons pe_str (pa_cons pe_str (pa_cons pe_str (pa_cons pe_str (pa_cons pe_str (pa_cons pe_str (pa_cons pe_str pa_nil))))))))))
      (pss_cons (ps_for PassesOwn.never rfl (pi_range1 (by rfl) T.z_range (pa_cons pe_int pa_nil)) (pg_name (i := 1) sc_right.nd rfl (by first | exact Or.inl rfl | exact Or.inr rfl)) (pss_cons (ps_set (i := 5) sc_right.nd rfl (by first | exact Or.inl rfl | exact Or.inr rfl) (pe_call (ok_value T) (hr.mono (by decide)) (by rfl) T.d_value.g T.d_value.F.kp T.d_value.b .nil pass0 (pa_cons (pv 0) (pa_cons (pv 1) pa_nil))))
      (pss_cons (ps_set (i := 2) sc_right.nd rfl (by first | exact Or.inl rfl | exact Or.inr rfl) (pe_call (ok_keeping T) (hr.mono (by decide)) (by rfl) T.d_keeping.g T.d_keeping.F.kp T.d_keeping.b .nil pass0 (pa_cons (pv 1) (pa_cons (pv 5) pa_nil))))
      (pss_cons (ps_if (PW.pt (pw_or (pt_cmpR op_ne (pe_callB (call_repr cm hr.units) (by rfl) T.z_repr boot_repr (pa_cons (pe_call (ok_kept T) (hr.mono (by decide)) (by rfl) T.d_kept.g T.d_kept.F.kp T.d_kept.b .nil pass0 (pa_cons (pv 1) (pa_cons (pv 2) pa_nil))) pa_nil)) (pe_callB (call_repr cm hr.units) (by rfl) T.z_repr boot_repr (pa_cons (pv 5) pa_nil)) (nomark _)) (pw_or1 (pt_cmpR (op_neD hr.units) (pe_call (ok_caught T) (hr.mono (by decide)) (by rfl) T.d_caught.g T.d_caught.F.kp T.d_caught.b .nil pass0 (pa_cons (pv 1) (pa_cons (pv 5) pa_nil))) (pe_ix ix_list (pv 4) (pv 1) (fun _ _ => rfl)) (nomark _))))) (pss_one (ps_ret pe_bl)) pss_nil)
      (pss_cons (ps_if (PW.pt (pw_or (pt_cmpR (op_neD hr.units) (pe_call (ok_kinds_kept T) (hr.mono (by decide)) (by rfl) T.d_kinds_kept.g T.d_kinds_kept.F.kp T.d_kinds_kept.b .nil pass0 (pa_cons (pv 2) pa_nil)) (pe_call (ok_only T) (hr.mono (by decide)) (by rfl) T.d_only.g T.d_only.F.kp T.d_only.b .nil pass0 (pa_cons (pe_tup (pa_cons (pv 1) pa_nil)) (pa_cons pe_int pa_nil))) (nomark _)) (pw_or1 (pt_cmpR (op_neD hr.units) (pe_call (ok_kinds T) (hr.mono (by decide)) (by rfl) T.d_kinds.g T.d_kinds.F.kp T.d_kinds.b .nil pass0 (pa_cons (pv 2) pa_nil)) (pe_op op_cat (pe_op op_rep (pe_lst (pa_cons pe_bl pa_nil)) pe_int) (pe_lst (pa_cons (pe_cmpR op_lt (pv 1) pe_int (nomark _)) pa_nil))) (nomark _))))) (pss_one (ps_ret pe_bl)) pss_nil)
      (pss_one (ps_if (pt_cmpR (op_neD hr.units) (pe_call (ok_kinds_of_python T) (hr.mono (by decide)) (by rfl) T.d_kinds_of_python.g T.d_kinds_of_python.F.kp T.d_kinds_of_python.b .nil pass0 (pa_cons (pv 2) pa_nil)) (pe_call (ok_only T) (hr.mono (by decide)) (by rfl) T.d_only.g T.d_only.F.kp T.d_only.b .nil pass0 (pa_cons (pe_ix ix_list (pv 3) (pv 1) (fun _ _ => rfl)) (pa_cons pe_int pa_nil))) (nomark _)) (pss_one (ps_ret pe_bl)) pss_nil)))))))
      (pss_one (ps_ret pe_bl)))))), ?_⟩
    refine ⟨_, rfl, by decide, by decide, for_range (n := 14) (fun i σ H2 => ∃ y1 y2, σ = [some (.ref D), y1, y2, none, none, none] ∧ Ge D H H2) ⟨none, none, rfl, Ge.rfl' dc⟩ ?_ ?_⟩
    · rintro i σ H2 hi ⟨y1, y2, rfl, g2⟩
      refine ⟨_, rfl, _, rfl, D, [D], rfl, g2.dc, Hid.one g2.dc, fun v3 d3 H3 hd3 g3 _ => ?_⟩
      rw [Int.zero_add]
      refine ⟨i, v3, rfl, fun a na => ?_⟩
      have g3 := g2.tr g3
      have g4 := g3.nw (o := ExO (.ref (clsA A i)) a) na
      have ea : ErrAt (upd H3 a (ExO (.ref (clsA A i)) a)) a (clsA A i) := .bare upd_same
      have kk := kA T hi
      generalize upd H3 a (ExO (.ref (clsA A i)) a) = H4 at g4 ea ⊢
      change tSeq _ _ _ _ _
      dsimp only [tRet, tSeq, tAsg, tIfS, tNext, gName_app]
      refine tt_same (evd_kinds (by rfl) ea kk (dataA T hi)) (evd_only (is := [i, 13]) (n := 14) (evd_tup (evda_cons (evd_var (by rfl) (.int _)) (evda_cons evd_int evda_nil)) (by simp)) (by decide)) (bls_map _ _) fun H5 e5 => ?_
      refine ite_b (fun e => nomatch e) (fun _ => ?_)
      refine tt_same (evd_kinds (by rfl) (errAt_ext ea e5) kk (dataAB T hi)) (evd_repF 8 (by decide) (by rfl)) (bls_rep _ _) fun H6 e6 => ?_
      refine ite_b (fun e => nomatch e) (fun _ => ?_)
      refine tt_same (evd_kinds (by rfl) (errAt_ext ea (e5.tr e6)) kk (dataAP hi)) (evd_only (is := [0]) (n := 7) (evd_tup (evda_cons evd_int evda_nil) (by simp)) (by decide)) (bls_map _ _) fun H7 e7 => ?_
      refine ite_b (fun e => nomatch e) (fun _ => ?_)
      exact ⟨_, _, rfl, g4.more ((e5.tr e6).tr e7)⟩
    · rintro σ H2 ⟨y1, y2, rfl, g2⟩
      change tSeq _ _ _ _ _
      dsimp only [tRet, tSeq, tAsg, tIfS, tNext, gName_app]
      refine ((evd_lst (evda_cons (evd_tup (evda_cons evd_int evda_nil) (by decide)) (evda_cons (evd_tup (evda_cons evd_int evda_nil) (by decide)) (evda_cons (evd_tup (evda_cons evd_int evda_nil) (by decide)) (evda_cons (evd_tup (evda_cons evd_int (evda_cons evd_int evda_nil)) (by decide)) (evda_cons (evd_tup (evda_cons evd_int (evda_cons evd_int evda_nil)) (by decide)) (evda_cons (evd_tup (evda_cons evd_int evda_nil) (by decide)) (evda_cons (evd_tup (evda_cons evd_int (evda_cons evd_int evda_nil)) (by decide)) (evda_cons (evd_tup (evda_cons evd_int evda_nil) (by decide)) evda_nil)))))))) (by decide)) : EvD _ _ _ (.list pyDs)) H2 Ext.rfl' _ fun v3 H3 e3 d3 => ?_
      refine ((evd_lst (evda_cons evd_str (evda_cons evd_str (evda_cons evd_str (evda_cons evd_str (evda_cons evd_str (evda_cons evd_str (evda_cons evd_str (evda_cons evd_str evda_nil)))))))) (by decide)) : EvD _ _ _ (.list woDs)) H3 Ext.rfl' _ fun v4 H4 e4 d4 => ?_
      have g4 := (g2.more e3).more e4
      have d3 := hide_lst g4.dc (d3.ext e4) (by decide) (by decide) (by decide)
      have d4 := hide_lst g4.dc d4 (by decide) (by decide) (by decide)
      clear e3 e4
      refine ⟨_, rfl, by decide, by decide, for_range (n := 8) (fun i σ H5 => ∃ y1 y2 y5, σ = [some (.ref D), y1, y2, some v3, some v4, y5] ∧ Ge D H H5 ∧ Dq (hide H5 [D]) v3 (.list pyDs) ∧ Dq (hide H5 [D]) v4 (.list woDs)) ⟨_, _, _, rfl, g4, d3, d4⟩ ?_ ?_⟩
      · clear g4 d3 d4 g2
        rintro i σ H5 hi ⟨y1, y2, y5, rfl, g5, d3, d4⟩
        refine ⟨_, rfl, _, rfl, D, i, by rw [Int.zero_add]; rfl, g5.dc, fun v5 d5 H6 good g6 q5 => ?_⟩
        have d3 := g6.q List.mem_cons_self d3
        have d4 := g6.q List.mem_cons_self d4
        have g6 := g5.tr g6
        rw [Int.zero_add]
        refine ⟨_, rfl, _, rfl, i, v5, rfl, fun a dx na nd ne => ?_⟩
        have na2 : upd H6 dx (.xd [(fldB i, v5)]) a = none := by rw [upd_ne (Ne.symm ne)]; exact na
        have e7 : Ext H6 (upd (upd H6 dx (.xd [(fldB i, v5)])) a (exo a (clsB A i) (some dx))) := (Ext.nw nd).tr (Ext.nw na2)
        have h1 : upd (upd H6 dx (.xd [(fldB i, v5)])) a (exo a (clsB A i) (some dx)) a = some (exo a (clsB A i) (some dx)) := upd_same
        have h2 : upd (upd H6 dx (.xd [(fldB i, v5)])) a (exo a (clsB A i) (some dx)) dx = some (.xd [(fldB i, v5)]) := by rw [upd_ne ne, upd_same]
        generalize upd (upd H6 dx (.xd [(fldB i, v5)])) a (exo a (clsB A i) (some dx)) = H7 at e7 h1 h2 ⊢
        have ea : ErrAt H7 a (clsB A i) := .held dx _ h1 h2
        have kk := kB T hi
        have d3u := (d3.up).ext e7
        have d4u := (d4.up).ext e7
        have q7 := q5.ext e7
        change tSeq _ _ _ _ _
        dsimp only [tRet, tSeq, tAsg, tIfS, tNext, gName_app]
        refine ⟨_, rfl, _, rfl, i, a, dx, v5, rfl, h1, h2, v5, d5, rfl, q7, good.tl, _, rfl, v5, d5, rfl, q7, good.tl, rfl, _, rfl, ite_b (fun e => absurd (ne_dec.symm.trans e) (by decide)) (fun _ => ?_)⟩
        refine ⟨_, rfl, _, rfl, i, v5, rfl, hi, fun H8 e8 => ?_⟩
        refine evd_ix (K := K) (l := 1) (i := i) (d := .str (wordB i)) rfl (d4u.ext e8) rfl (by unfold woDs; rw [List.getElem?_map, List.getElem?_range hi]; rfl) H8 Ext.rfl' _ fun v8 H9 e9 q9 => ?_
        refine ⟨.str (wordB i), .str (wordB i), .str _, dq_dp q9 rfl, shaped_word i, shaped_word i, _, rfl, ite_b (fun e => absurd ((ne_word i).symm.trans e) (by decide)) (fun _ => ?_)⟩
        refine tt_same (evd_kinds (by rfl) (errAt_ext ea (e8.tr e9)) kk (dataBB T hi)) (evd_only (is := [i]) (n := 8) (evd_tup (evda_cons (evd_var (by rfl) (.int _)) evda_nil) (by simp)) (by decide)) (bls_map _ _) fun H10 e10 => ?_
        refine ite_b (fun e => nomatch e) (fun _ => ?_)
        refine tt_same (evd_kinds (by rfl) (errAt_ext ea ((e8.tr e9).tr e10)) kk (dataBA T hi)) (evd_cat (evd_repF 13 (by decide) (by rfl)) (evd_lst (evda_cons (evd_lt3 (by rfl)) evda_nil) (by simp)) (by simp)) (bls_last _ _ _) fun H11 e11 => ?_
        refine ite_b (fun e => nomatch e) (fun _ => ?_)
        have e12 := ((e8.tr e9).tr e10).tr e11
        refine tt_same (evd_kinds (by rfl) (errAt_ext ea e12) kk (dataBP hi)) (evd_only (is := pyB i) (n := 7) (evd_ix (i := i) (by rfl) (d3u.ext e12) (by rfl) (by unfold pyDs; rw [List.getElem?_map, List.getElem?_range hi]; rfl)) (by decide)) (bls_map _ _) fun H12 e13 => ?_
        refine ite_b (fun e => nomatch e) (fun _ => ?_)
        have ee := (e7.tr e12).tr e13
        exact ⟨_, _, _, rfl, g6.more ee, d3.ext (ee.hd), d4.ext (ee.hd)⟩
      · rintro σ H5 ⟨y1, y2, y5, rfl, g5, _, _⟩
        exact q H5 g5
theorem ok_law {A : Adr} (T : Txt P K mg A) : FnG P w K mg base CX0 5 A.f_law A.o_law P_law (spLaw K) := by
  refine okG T.d_law.F sc_law (fun vs H Q E h => ?_) (fun cdv Ar outer s H vs Q E cm hr h => ?_)
  · obtain ⟨a, ns, rfl, _⟩ := h
    rfl
  · obtain ⟨a, ns, rfl, hS, hl, q⟩ := h
    refine ⟨_, (pss_cons (ps_for PassesOwn.never rfl (pi_range1 (by rfl) T.z_range (pa_cons (pe_callB (call_max2 rfl) (by rfl) T.z_max boot_max (pa_cons pe_int (pa_cons (pe_callB (call_min2 rfl) (by rfl) T.z_min boot_min (pa_cons pe_int (pa_cons (pe_callB call_len (by rfl) T.z_len PySem.boot_len (pa_cons (pv 0) pa_nil)) pa_nil))) pa_nil))) pa_nil)) (pg_name (i := 1) sc_law.nd rfl (by first | exact Or.inl rfl | exact Or.inr rfl)) (pss_one (ps_if (pt_not (pt_val (pe_callG (ok_right T) cm (hr.mono (by decide)) (by rfl) T.d_right.g T.d_right.F.kp T.d_right.b .nil pass0 (pa_cons (pe_call (ok_dice T) (hr.mono (by decide)) (by rfl) T.d_dice.g T.d_dice.F.kp T.d_dice.b .nil pass0 (pa_cons (pv 0) (pa_cons (pv 1) pa_nil))) pa_nil)))) (pss_one (ps_ret pe_bl)) pss_nil)))
      (pss_one (ps_ret pe_bl))), ?_⟩
    refine ⟨_, rfl, _, _, rfl, .inl ⟨_, hS, rfl⟩, _, _, rfl, _, _, rfl, _, rfl, ?_⟩
    have nb : ∀ k : Int, 0 ≤ (if (if k < 8 then k else 8) > 1 then (if k < 8 then k else 8) else 1) ∧ (if (if k < 8 then k else 8) > 1 then (if k < 8 then k else 8) else 1) ≤ 8 := fun k => by
      by_cases h1 : k < 8
      · rw [if_pos h1]
        by_cases h2 : k > 1
        · rw [if_pos h2]
          omega
        · rw [if_neg h2]
          omega
      · rw [if_neg h1]
        decide
    have nb1 := nb ((ns.map V.int).length : Int)
    generalize (if (if ((ns.map V.int).length : Int) < 8 then ((ns.map V.int).length : Int) else 8) > 1 then (if ((ns.map V.int).length : Int) < 8 then ((ns.map V.int).length : Int) else 8) else 1) = n at nb1 ⊢
    refine ⟨by omega, by omega, for_range (n := n.toNat) (fun i σ H2 => ∃ y1, σ = [some (.ref a), y1] ∧ Ext H H2) ⟨none, rfl, Ext.rfl'⟩ ?_ ?_⟩
    · rintro i σ H2 hi ⟨y1, rfl, e2⟩
      refine ⟨_, rfl, _, rfl, a, ns, i, by rw [Int.zero_add]; rfl, Evl.ex_l e2 hS, by omega, fun D H3 nD e3 dc3 => ⟨D, rfl, dc3, fun H4 g4 => ⟨_, rfl, ?_⟩⟩⟩
      refine ⟨_, rfl, fun b o e => ?_⟩
      have e := e2 _ _ e
      exact g4.kp b o (ne_of_none e nD) (e3 _ _ e)
    · rintro σ H2 ⟨y1, rfl, e2⟩
      exact q H2
end
/-! ### the top -/
set_option maxHeartbeats 4000000 in
theorem all_mk {l : PySem.W.OpenLaw} {w : World} {K : PySem.W.Frag} {h : Heap} {mg : Str → Option Value} {fa : Addr} (X : K.In h) (G : h.Ns mainGlobals mg) (hfa : mg "law" = some (.ref fa))
    {f_dice f_roll f_pick f_with_message f_keeping f_kept f_kinds f_kinds_kept f_kinds_of_python f_only f_raised f_caught f_word f_value f_right f_law : Addr}
    {od_dice an_dice od_roll an_roll od_pick an_pick od_with_message an_with_message od_keeping an_keeping od_kept an_kept od_kinds an_kinds od_kinds_kept an_kinds_kept od_kinds_of_python an_kinds_of_python od_only an_only od_raised an_raised od_caught an_caught od_word an_word od_value an_value od_right an_right od_law an_law : Option Addr} {sl_dice sl_roll sl_pick sl_with_message sl_keeping sl_kept sl_kinds sl_kinds_kept sl_kinds_of_python sl_only sl_raised sl_caught sl_word sl_value sl_right sl_law : Array (Option Value)}
    {oc_dice kV_dice dc_dice pm_dice cd_dice ct_dice oc_roll kV_roll dc_roll pm_roll cd_roll ct_roll oc_pick kV_pick dc_pick pm_pick cd_pick ct_pick oc_with_message kV_with_message dc_with_message pm_with_message cd_with_message ct_with_message oc_keeping kV_keeping dc_keeping pm_keeping cd_keeping ct_keeping oc_kept kV_kept dc_kept pm_kept cd_kept ct_kept oc_kinds kV_kinds dc_kinds pm_kinds cd_kinds ct_kinds oc_kinds_kept kV_kinds_kept dc_kinds_kept pm_kinds_kept cd_kinds_kept ct_kinds_kept oc_kinds_of_python kV_kinds_of_python dc_kinds_of_python pm_kinds_of_python cd_kinds_of_python ct_kinds_of_python oc_only kV_only dc_only pm_only cd_only ct_only oc_raised kV_raised dc_raised pm_raised cd_raised ct_raised oc_caught kV_caught dc_caught pm_caught cd_caught ct_caught oc_word kV_word dc_word pm_word cd_word ct_word oc_value kV_value dc_value pm_value cd_value ct_value oc_right kV_right dc_right pm_right cd_right ct_right oc_law kV_law dc_law pm_law cd_law ct_law : Value}
    (a_dice : PySem.W.nsIn K mainGlobals "_law_dice" = some (some (.ref f_dice)))
    (l_dice : K.lookup f_dice = some ⟨oc_dice, od_dice, .func (PySem.W.fnOf "_law_dice" "_law_dice" (defArgs s_dice) (defBody s_dice) (defScope s_dice) .none kV_dice dc_dice pm_dice an_dice cd_dice ct_dice), sl_dice⟩)
    (c_dice : PySem.W.codeIn K cd_dice "_law_dice" = true) (k_dice : PySem.W.keepIn K (.ref f_dice) = true)
    (a_roll : PySem.W.nsIn K mainGlobals "_law_roll" = some (some (.ref f_roll)))
    (l_roll : K.lookup f_roll = some ⟨oc_roll, od_roll, .func (PySem.W.fnOf "_law_roll" "_law_roll" (defArgs s_roll) (defBody s_roll) (defScope s_roll) .none kV_roll dc_roll pm_roll an_roll cd_roll ct_roll), sl_roll⟩)
    (c_roll : PySem.W.codeIn K cd_roll "_law_roll" = true) (k_roll : PySem.W.keepIn K (.ref f_roll) = true)
    (a_pick : PySem.W.nsIn K mainGlobals "_law_pick" = some (some (.ref f_pick)))
    (l_pick : K.lookup f_pick = some ⟨oc_pick, od_pick, .func (PySem.W.fnOf "_law_pick" "_law_pick" (defArgs s_pick) (defBody s_pick) (defScope s_pick) .none kV_pick dc_pick pm_pick an_pick cd_pick ct_pick), sl_pick⟩)
    (c_pick : PySem.W.codeIn K cd_pick "_law_pick" = true) (k_pick : PySem.W.keepIn K (.ref f_pick) = true)
    (a_with_message : PySem.W.nsIn K mainGlobals "_law_with_message" = some (some (.ref f_with_message)))
    (l_with_message : K.lookup f_with_message = some ⟨oc_with_message, od_with_message, .func (PySem.W.fnOf "_law_with_message" "_law_with_message" (defArgs s_with_message) (defBody s_with_message) (defScope s_with_message) .none kV_with_message dc_with_message pm_with_message an_with_message cd_with_message ct_with_message), sl_with_message⟩)
    (c_with_message : PySem.W.codeIn K cd_with_message "_law_with_message" = true) (k_with_message : PySem.W.keepIn K (.ref f_with_message) = true)
    (a_keeping : PySem.W.nsIn K mainGlobals "_law_keeping" = some (some (.ref f_keeping)))
    (l_keeping : K.lookup f_keeping = some ⟨oc_keeping, od_keeping, .func (PySem.W.fnOf "_law_keeping" "_law_keeping" (defArgs s_keeping) (defBody s_keeping) (defScope s_keeping) .none kV_keeping dc_keeping pm_keeping an_keeping cd_keeping ct_keeping), sl_keeping⟩)
    (c_keeping : PySem.W.codeIn K cd_keeping "_law_keeping" = true) (k_keeping : PySem.W.keepIn K (.ref f_keeping) = true)
    (a_kept : PySem.W.nsIn K mainGlobals "_law_kept" = some (some (.ref f_kept)))
    (l_kept : K.lookup f_kept = some ⟨oc_kept, od_kept, .func (PySem.W.fnOf "_law_kept" "_law_kept" (defArgs s_kept) (defBody s_kept) (defScope s_kept) .none kV_kept dc_kept pm_kept an_kept cd_kept ct_kept), sl_kept⟩)
    (c_kept : PySem.W.codeIn K cd_kept "_law_kept" = true) (k_kept : PySem.W.keepIn K (.ref f_kept) = true)
    (a_kinds : PySem.W.nsIn K mainGlobals "_law_kinds" = some (some (.ref f_kinds)))
    (l_kinds : K.lookup f_kinds = some ⟨oc_kinds, od_kinds, .func (PySem.W.fnOf "_law_kinds" "_law_kinds" (defArgs s_kinds) (defBody s_kinds) (defScope s_kinds) .none kV_kinds dc_kinds pm_kinds an_kinds cd_kinds ct_kinds), sl_kinds⟩)
    (c_kinds : PySem.W.codeIn K cd_kinds "_law_kinds" = true) (k_kinds : PySem.W.keepIn K (.ref f_kinds) = true)
    (a_kinds_kept : PySem.W.nsIn K mainGlobals "_law_kinds_kept" = some (some (.ref f_kinds_kept)))
    (l_kinds_kept : K.lookup f_kinds_kept = some ⟨oc_kinds_kept, od_kinds_kept, .func (PySem.W.fnOf "_law_kinds_kept" "_law_kinds_kept" (defArgs s_kinds_kept) (defBody s_kinds_kept) (defScope s_kinds_kept) .none kV_kinds_kept dc_kinds_kept pm_kinds_kept an_kinds_kept cd_kinds_kept ct_kinds_kept), sl_kinds_kept⟩)
    (c_kinds_kept : PySem.W.codeIn K cd_kinds_kept "_law_kinds_kept" = true) (k_kinds_kept : PySem.W.keepIn K (.ref f_kinds_kept) = true)
    (a_kinds_of_python : PySem.W.nsIn K mainGlobals "_law_kinds_of_python" = some (some (.ref f_kinds_of_python)))
    (l_kinds_of_python : K.lookup f_kinds_of_python = some ⟨oc_kinds_of_python, od_kinds_of_python, .func (PySem.W.fnOf "_law_kinds_of_python" "_law_kinds_of_python" (defArgs s_kinds_of_python) (defBody s_kinds_of_python) (defScope s_kinds_of_python) .none kV_kinds_of_python dc_kinds_of_python pm_kinds_of_python an_kinds_of_python cd_kinds_of_python ct_kinds_of_python), sl_kinds_of_python⟩)
    (c_kinds_of_python : PySem.W.codeIn K cd_kinds_of_python "_law_kinds_of_python" = true) (k_kinds_of_python : PySem.W.keepIn K (.ref f_kinds_of_python) = true)
    (a_only : PySem.W.nsIn K mainGlobals "_law_only" = some (some (.ref f_only)))
    (l_only : K.lookup f_only = some ⟨oc_only, od_only, .func (PySem.W.fnOf "_law_only" "_law_only" (defArgs s_only) (defBody s_only) (defScope s_only) .none kV_only dc_only pm_only an_only cd_only ct_only), sl_only⟩)
    (c_only : PySem.W.codeIn K cd_only "_law_only" = true) (k_only : PySem.W.keepIn K (.ref f_only) = true)
    (a_raised : PySem.W.nsIn K mainGlobals "_law_raised" = some (some (.ref f_raised)))
    (l_raised : K.lookup f_raised = some ⟨oc_raised, od_raised, .func (PySem.W.fnOf "_law_raised" "_law_raised" (defArgs s_raised) (defBody s_raised) (defScope s_raised) .none kV_raised dc_raised pm_raised an_raised cd_raised ct_raised), sl_raised⟩)
    (c_raised : PySem.W.codeIn K cd_raised "_law_raised" = true) (k_raised : PySem.W.keepIn K (.ref f_raised) = true)
    (a_caught : PySem.W.nsIn K mainGlobals "_law_caught" = some (some (.ref f_caught)))
    (l_caught : K.lookup f_caught = some ⟨oc_caught, od_caught, .func (PySem.W.fnOf "_law_caught" "_law_caught" (defArgs s_caught) (defBody s_caught) (defScope s_caught) .none kV_caught dc_caught pm_caught an_caught cd_caught ct_caught), sl_caught⟩)
    (c_caught : PySem.W.codeIn K cd_caught "_law_caught" = true) (k_caught : PySem.W.keepIn K (.ref f_caught) = true)
    (a_word : PySem.W.nsIn K mainGlobals "_law_word" = some (some (.ref f_word)))
    (l_word : K.lookup f_word = some ⟨oc_word, od_word, .func (PySem.W.fnOf "_law_word" "_law_word" (defArgs s_word) (defBody s_word) (defScope s_word) .none kV_word dc_word pm_word an_word cd_word ct_word), sl_word⟩)
    (c_word : PySem.W.codeIn K cd_word "_law_word" = true) (k_word : PySem.W.keepIn K (.ref f_word) = true)
    (a_value : PySem.W.nsIn K mainGlobals "_law_value" = some (some (.ref f_value)))
    (l_value : K.lookup f_value = some ⟨oc_value, od_value, .func (PySem.W.fnOf "_law_value" "_law_value" (defArgs s_value) (defBody s_value) (defScope s_value) .none kV_value dc_value pm_value an_value cd_value ct_value), sl_value⟩)
    (c_value : PySem.W.codeIn K cd_value "_law_value" = true) (k_value : PySem.W.keepIn K (.ref f_value) = true)
    (a_right : PySem.W.nsIn K mainGlobals "_law_right" = some (some (.ref f_right)))
    (l_right : K.lookup f_right = some ⟨oc_right, od_right, .func (PySem.W.fnOf "_law_right" "_law_right" (defArgs s_right) (defBody s_right) (defScope s_right) .none kV_right dc_right pm_right an_right cd_right ct_right), sl_right⟩)
    (c_right : PySem.W.codeIn K cd_right "_law_right" = true) (k_right : PySem.W.keepIn K (.ref f_right) = true)
    (a_law : PySem.W.nsIn K mainGlobals "law" = some (some (.ref f_law)))
    (l_law : K.lookup f_law = some ⟨oc_law, od_law, .func (PySem.W.fnOf "law" "law" (defArgs s_law) (defBody s_law) (defScope s_law) .none kV_law dc_law pm_law an_law cd_law ct_law), sl_law⟩)
    (c_law : PySem.W.codeIn K cd_law "law" = true) (k_law : PySem.W.keepIn K (.ref f_law) = true)
    {c_ShelfError c_InvalidTable c_InvalidRow c_InvalidBag c_InvalidQuery c_InvalidStore c_InvalidStep c_InvalidPlan c_InvalidTransition c_InvalidScheme c_InvalidEvent c_InvalidSnapshot c_InvalidTree c_InvalidOperation c_ParseError c_Stopped c_Wrong c_UnknownName c_UnknownKey c_NothingToUndo c_TooMany c_InvalidNumber : Addr}
    {i_ParseError i_Stopped i_Wrong i_UnknownName i_UnknownKey i_NothingToUndo i_TooMany i_InvalidNumber : Addr}
    (a_ShelfError : PySem.W.nsIn K mainGlobals "ShelfError" = some (some (.ref c_ShelfError)))
    (k_ShelfError : ErrK K c_ShelfError [.type "ValueError", .type "Exception", .type "BaseException", .type "object"])
    (b_ShelfError : ErrB K c_ShelfError)
    (a_InvalidTable : PySem.W.nsIn K mainGlobals "InvalidTable" = some (some (.ref c_InvalidTable)))
    (k_InvalidTable : ErrK K c_InvalidTable [.ref c_ShelfError, .type "ValueError", .type "Exception", .type "BaseException", .type "object"])
    (b_InvalidTable : ErrB K c_InvalidTable)
    (a_InvalidRow : PySem.W.nsIn K mainGlobals "InvalidRow" = some (some (.ref c_InvalidRow)))
    (k_InvalidRow : ErrK K c_InvalidRow [.ref c_ShelfError, .type "ValueError", .type "Exception", .type "BaseException", .type "object"])
    (b_InvalidRow : ErrB K c_InvalidRow)
    (a_InvalidBag : PySem.W.nsIn K mainGlobals "InvalidBag" = some (some (.ref c_InvalidBag)))
    (k_InvalidBag : ErrK K c_InvalidBag [.ref c_ShelfError, .type "ValueError", .type "Exception", .type "BaseException", .type "object"])
    (b_InvalidBag : ErrB K c_InvalidBag)
    (a_InvalidQuery : PySem.W.nsIn K mainGlobals "InvalidQuery" = some (some (.ref c_InvalidQuery)))
    (k_InvalidQuery : ErrK K c_InvalidQuery [.ref c_ShelfError, .type "ValueError", .type "Exception", .type "BaseException", .type "object"])
    (b_InvalidQuery : ErrB K c_InvalidQuery)
    (a_InvalidStore : PySem.W.nsIn K mainGlobals "InvalidStore" = some (some (.ref c_InvalidStore)))
    (k_InvalidStore : ErrK K c_InvalidStore [.ref c_ShelfError, .type "ValueError", .type "Exception", .type "BaseException", .type "object"])
    (b_InvalidStore : ErrB K c_InvalidStore)
    (a_InvalidStep : PySem.W.nsIn K mainGlobals "InvalidStep" = some (some (.ref c_InvalidStep)))
    (k_InvalidStep : ErrK K c_InvalidStep [.ref c_ShelfError, .type "ValueError", .type "Exception", .type "BaseException", .type "object"])
    (b_InvalidStep : ErrB K c_InvalidStep)
    (a_InvalidPlan : PySem.W.nsIn K mainGlobals "InvalidPlan" = some (some (.ref c_InvalidPlan)))
    (k_InvalidPlan : ErrK K c_InvalidPlan [.ref c_ShelfError, .type "ValueError", .type "Exception", .type "BaseException", .type "object"])
    (b_InvalidPlan : ErrB K c_InvalidPlan)
    (a_InvalidTransition : PySem.W.nsIn K mainGlobals "InvalidTransition" = some (some (.ref c_InvalidTransition)))
    (k_InvalidTransition : ErrK K c_InvalidTransition [.ref c_ShelfError, .type "ValueError", .type "Exception", .type "BaseException", .type "object"])
    (b_InvalidTransition : ErrB K c_InvalidTransition)
    (a_InvalidScheme : PySem.W.nsIn K mainGlobals "InvalidScheme" = some (some (.ref c_InvalidScheme)))
    (k_InvalidScheme : ErrK K c_InvalidScheme [.ref c_ShelfError, .type "ValueError", .type "Exception", .type "BaseException", .type "object"])
    (b_InvalidScheme : ErrB K c_InvalidScheme)
    (a_InvalidEvent : PySem.W.nsIn K mainGlobals "InvalidEvent" = some (some (.ref c_InvalidEvent)))
    (k_InvalidEvent : ErrK K c_InvalidEvent [.ref c_ShelfError, .type "ValueError", .type "Exception", .type "BaseException", .type "object"])
    (b_InvalidEvent : ErrB K c_InvalidEvent)
    (a_InvalidSnapshot : PySem.W.nsIn K mainGlobals "InvalidSnapshot" = some (some (.ref c_InvalidSnapshot)))
    (k_InvalidSnapshot : ErrK K c_InvalidSnapshot [.ref c_ShelfError, .type "ValueError", .type "Exception", .type "BaseException", .type "object"])
    (b_InvalidSnapshot : ErrB K c_InvalidSnapshot)
    (a_InvalidTree : PySem.W.nsIn K mainGlobals "InvalidTree" = some (some (.ref c_InvalidTree)))
    (k_InvalidTree : ErrK K c_InvalidTree [.ref c_ShelfError, .type "ValueError", .type "Exception", .type "BaseException", .type "object"])
    (b_InvalidTree : ErrB K c_InvalidTree)
    (a_InvalidOperation : PySem.W.nsIn K mainGlobals "InvalidOperation" = some (some (.ref c_InvalidOperation)))
    (k_InvalidOperation : ErrK K c_InvalidOperation [.ref c_ShelfError, .type "ValueError", .type "Exception", .type "BaseException", .type "object"])
    (b_InvalidOperation : ErrB K c_InvalidOperation)
    (a_ParseError : PySem.W.nsIn K mainGlobals "ParseError" = some (some (.ref c_ParseError)))
    (k_ParseError : ErrK K c_ParseError [.ref c_ShelfError, .type "ValueError", .type "Exception", .type "BaseException", .type "object"])
    (t_ParseError : ErrT l.prog K mg c_ParseError i_ParseError "line" "line") (n_ParseError : PySem.W.findIn K (.ref c_ParseError) "line" = some none)
    (a_Stopped : PySem.W.nsIn K mainGlobals "Stopped" = some (some (.ref c_Stopped)))
    (k_Stopped : ErrK K c_Stopped [.ref c_ShelfError, .type "ValueError", .type "Exception", .type "BaseException", .type "object"])
    (t_Stopped : ErrT l.prog K mg c_Stopped i_Stopped "index" "index") (n_Stopped : PySem.W.findIn K (.ref c_Stopped) "index" = some none)
    (a_Wrong : PySem.W.nsIn K mainGlobals "Wrong" = some (some (.ref c_Wrong)))
    (k_Wrong : ErrK K c_Wrong [.ref c_ShelfError, .type "ValueError", .type "Exception", .type "BaseException", .type "object"])
    (t_Wrong : ErrT l.prog K mg c_Wrong i_Wrong "certificate" "certificate") (n_Wrong : PySem.W.findIn K (.ref c_Wrong) "certificate" = some none)
    (a_UnknownName : PySem.W.nsIn K mainGlobals "UnknownName" = some (some (.ref c_UnknownName)))
    (k_UnknownName : ErrK K c_UnknownName [.type "KeyError", .type "LookupError", .type "Exception", .type "BaseException", .type "object"])
    (t_UnknownName : ErrT l.prog K mg c_UnknownName i_UnknownName "name" "name") (n_UnknownName : PySem.W.findIn K (.ref c_UnknownName) "name" = some none)
    (a_UnknownKey : PySem.W.nsIn K mainGlobals "UnknownKey" = some (some (.ref c_UnknownKey)))
    (k_UnknownKey : ErrK K c_UnknownKey [.type "IndexError", .type "LookupError", .type "Exception", .type "BaseException", .type "object"])
    (t_UnknownKey : ErrT l.prog K mg c_UnknownKey i_UnknownKey "key" "key") (n_UnknownKey : PySem.W.findIn K (.ref c_UnknownKey) "key" = some none)
    (a_NothingToUndo : PySem.W.nsIn K mainGlobals "NothingToUndo" = some (some (.ref c_NothingToUndo)))
    (k_NothingToUndo : ErrK K c_NothingToUndo [.type "LookupError", .type "Exception", .type "BaseException", .type "object"])
    (t_NothingToUndo : ErrT l.prog K mg c_NothingToUndo i_NothingToUndo "many" "many") (n_NothingToUndo : PySem.W.findIn K (.ref c_NothingToUndo) "many" = some none)
    (a_TooMany : PySem.W.nsIn K mainGlobals "TooMany" = some (some (.ref c_TooMany)))
    (k_TooMany : ErrK K c_TooMany [.type "OverflowError", .type "ArithmeticError", .type "Exception", .type "BaseException", .type "object"])
    (t_TooMany : ErrT l.prog K mg c_TooMany i_TooMany "limit" "limit") (n_TooMany : PySem.W.findIn K (.ref c_TooMany) "limit" = some none)
    (a_InvalidNumber : PySem.W.nsIn K mainGlobals "InvalidNumber" = some (some (.ref c_InvalidNumber)))
    (k_InvalidNumber : ErrK K c_InvalidNumber [.type "RuntimeError", .type "Exception", .type "BaseException", .type "object"])
    (t_InvalidNumber : ErrT l.prog K mg c_InvalidNumber i_InvalidNumber "value" "value") (n_InvalidNumber : PySem.W.findIn K (.ref c_InvalidNumber) "value" = some none)
    (nd : [c_ShelfError, c_InvalidTable, c_InvalidRow, c_InvalidBag, c_InvalidQuery, c_InvalidStore, c_InvalidStep, c_InvalidPlan, c_InvalidTransition, c_InvalidScheme, c_InvalidEvent, c_InvalidSnapshot, c_InvalidTree, c_InvalidOperation, c_ParseError, c_Stopped, c_Wrong, c_UnknownName, c_UnknownKey, c_NothingToUndo, c_TooMany, c_InvalidNumber].Nodup)
    (z_ArithmeticError : PySem.W.nsIn K mainGlobals "ArithmeticError" = some none)
    (z_IndexError : PySem.W.nsIn K mainGlobals "IndexError" = some none)
    (z_KeyError : PySem.W.nsIn K mainGlobals "KeyError" = some none)
    (z_LookupError : PySem.W.nsIn K mainGlobals "LookupError" = some none)
    (z_OverflowError : PySem.W.nsIn K mainGlobals "OverflowError" = some none)
    (z_RuntimeError : PySem.W.nsIn K mainGlobals "RuntimeError" = some none)
    (z_ValueError : PySem.W.nsIn K mainGlobals "ValueError" = some none)
    (z_abs : PySem.W.nsIn K mainGlobals "abs" = some none)
    (z_int : PySem.W.nsIn K mainGlobals "int" = some none)
    (z_isinstance : PySem.W.nsIn K mainGlobals "isinstance" = some none)
    (z_len : PySem.W.nsIn K mainGlobals "len" = some none)
    (z_max : PySem.W.nsIn K mainGlobals "max" = some none)
    (z_min : PySem.W.nsIn K mainGlobals "min" = some none)
    (z_range : PySem.W.nsIn K mainGlobals "range" = some none)
    (z_repr : PySem.W.nsIn K mainGlobals "repr" = some none)
    : ∃ fd : FuncData, (∀ (s : Shared) (v : Value), BindsTo s fd ⟨[v], []⟩ [("_law_script", v)]) ∧ ∀ base : Heap, K.In base → base.Ns mainGlobals mg → FnG l.prog w K mg base CX0 5 fa fd ["_law_script"] (spLaw K) := by
  have e := hfa.symm.trans (PySem.W.mg_of X G a_law)
  cases e
  have F_dice := fun_mk (st := s_dice) l_dice c_dice k_dice
  have b_dice := F_dice.binds (ps := P_dice) fun _ _ _ _ _ _ us hl => match us, hl with | [_, _], _ => rfl
  have F_roll := fun_mk (st := s_roll) l_roll c_roll k_roll
  have b_roll := F_roll.binds (ps := P_roll) fun _ _ _ _ _ _ us hl => match us, hl with | [_, _], _ => rfl
  have F_pick := fun_mk (st := s_pick) l_pick c_pick k_pick
  have b_pick := F_pick.binds (ps := P_pick) fun _ _ _ _ _ _ us hl => match us, hl with | [_, _], _ => rfl
  have F_with_message := fun_mk (st := s_with_message) l_with_message c_with_message k_with_message
  have b_with_message := F_with_message.binds (ps := P_with_message) fun _ _ _ _ _ _ us hl => match us, hl with | [_, _], _ => rfl
  have F_keeping := fun_mk (st := s_keeping) l_keeping c_keeping k_keeping
  have b_keeping := F_keeping.binds (ps := P_keeping) fun _ _ _ _ _ _ us hl => match us, hl with | [_, _], _ => rfl
  have F_kept := fun_mk (st := s_kept) l_kept c_kept k_kept
  have b_kept := F_kept.binds (ps := P_kept) fun _ _ _ _ _ _ us hl => match us, hl with | [_, _], _ => rfl
  have F_kinds := fun_mk (st := s_kinds) l_kinds c_kinds k_kinds
  have b_kinds := F_kinds.binds (ps := P_kinds) fun _ _ _ _ _ _ us hl => match us, hl with | [_], _ => rfl
  have F_kinds_kept := fun_mk (st := s_kinds_kept) l_kinds_kept c_kinds_kept k_kinds_kept
  have b_kinds_kept := F_kinds_kept.binds (ps := P_kinds_kept) fun _ _ _ _ _ _ us hl => match us, hl with | [_], _ => rfl
  have F_kinds_of_python := fun_mk (st := s_kinds_of_python) l_kinds_of_python c_kinds_of_python k_kinds_of_python
  have b_kinds_of_python := F_kinds_of_python.binds (ps := P_kinds_of_python) fun _ _ _ _ _ _ us hl => match us, hl with | [_], _ => rfl
  have F_only := fun_mk (st := s_only) l_only c_only k_only
  have b_only := F_only.binds (ps := P_only) fun _ _ _ _ _ _ us hl => match us, hl with | [_, _], _ => rfl
  have F_raised := fun_mk (st := s_raised) l_raised c_raised k_raised
  have b_raised := F_raised.binds (ps := P_raised) fun _ _ _ _ _ _ us hl => match us, hl with | [_, _], _ => rfl
  have F_caught := fun_mk (st := s_caught) l_caught c_caught k_caught
  have b_caught := F_caught.binds (ps := P_caught) fun _ _ _ _ _ _ us hl => match us, hl with | [_, _], _ => rfl
  have F_word := fun_mk (st := s_word) l_word c_word k_word
  have b_word := F_word.binds (ps := P_word) fun _ _ _ _ _ _ us hl => match us, hl with | [_], _ => rfl
  have F_value := fun_mk (st := s_value) l_value c_value k_value
  have b_value := F_value.binds (ps := P_value) fun _ _ _ _ _ _ us hl => match us, hl with | [_, _], _ => rfl
  have F_right := fun_mk (st := s_right) l_right c_right k_right
  have b_right := F_right.binds (ps := P_right) fun _ _ _ _ _ _ us hl => match us, hl with | [_], _ => rfl
  have F_law := fun_mk (st := s_law) l_law c_law k_law
  have b_law := F_law.binds (ps := P_law) fun _ _ _ _ _ _ us hl => match us, hl with | [_], _ => rfl
  let A : Adr := ⟨f_dice, PySem.W.fnOf "_law_dice" "_law_dice" (defArgs s_dice) (defBody s_dice) (defScope s_dice) .none kV_dice dc_dice pm_dice an_dice cd_dice ct_dice,
    f_roll, PySem.W.fnOf "_law_roll" "_law_roll" (defArgs s_roll) (defBody s_roll) (defScope s_roll) .none kV_roll dc_roll pm_roll an_roll cd_roll ct_roll,
    f_pick, PySem.W.fnOf "_law_pick" "_law_pick" (defArgs s_pick) (defBody s_pick) (defScope s_pick) .none kV_pick dc_pick pm_pick an_pick cd_pick ct_pick,
    f_with_message, PySem.W.fnOf "_law_with_message" "_law_with_message" (defArgs s_with_message) (defBody s_with_message) (defScope s_with_message) .none kV_with_message dc_with_message pm_with_message an_with_message cd_with_message ct_with_message,
    f_keeping, PySem.W.fnOf "_law_keeping" "_law_keeping" (defArgs s_keeping) (defBody s_keeping) (defScope s_keeping) .none kV_keeping dc_keeping pm_keeping an_keeping cd_keeping ct_keeping,
    f_kept, PySem.W.fnOf "_law_kept" "_law_kept" (defArgs s_kept) (defBody s_kept) (defScope s_kept) .none kV_kept dc_kept pm_kept an_kept cd_kept ct_kept,
    f_kinds, PySem.W.fnOf "_law_kinds" "_law_kinds" (defArgs s_kinds) (defBody s_kinds) (defScope s_kinds) .none kV_kinds dc_kinds pm_kinds an_kinds cd_kinds ct_kinds,
    f_kinds_kept, PySem.W.fnOf "_law_kinds_kept" "_law_kinds_kept" (defArgs s_kinds_kept) (defBody s_kinds_kept) (defScope s_kinds_kept) .none kV_kinds_kept dc_kinds_kept pm_kinds_kept an_kinds_kept cd_kinds_kept ct_kinds_kept,
    f_kinds_of_python, PySem.W.fnOf "_law_kinds_of_python" "_law_kinds_of_python" (defArgs s_kinds_of_python) (defBody s_kinds_of_python) (defScope s_kinds_of_python) .none kV_kinds_of_python dc_kinds_of_python pm_kinds_of_python an_kinds_of_python cd_kinds_of_python ct_kinds_of_python,
    f_only, PySem.W.fnOf "_law_only" "_law_only" (defArgs s_only) (defBody s_only) (defScope s_only) .none kV_only dc_only pm_only an_only cd_only ct_only,
    f_raised, PySem.W.fnOf "_law_raised" "_law_raised" (defArgs s_raised) (defBody s_raised) (defScope s_raised) .none kV_raised dc_raised pm_raised an_raised cd_raised ct_raised,
    f_caught, PySem.W.fnOf "_law_caught" "_law_caught" (defArgs s_caught) (defBody s_caught) (defScope s_caught) .none kV_caught dc_caught pm_caught an_caught cd_caught ct_caught,
    f_word, PySem.W.fnOf "_law_word" "_law_word" (defArgs s_word) (defBody s_word) (defScope s_word) .none kV_word dc_word pm_word an_word cd_word ct_word,
    f_value, PySem.W.fnOf "_law_value" "_law_value" (defArgs s_value) (defBody s_value) (defScope s_value) .none kV_value dc_value pm_value an_value cd_value ct_value,
    f_right, PySem.W.fnOf "_law_right" "_law_right" (defArgs s_right) (defBody s_right) (defScope s_right) .none kV_right dc_right pm_right an_right cd_right ct_right,
    fa, PySem.W.fnOf "law" "law" (defArgs s_law) (defBody s_law) (defScope s_law) .none kV_law dc_law pm_law an_law cd_law ct_law, c_ShelfError, c_InvalidTable, c_InvalidRow, c_InvalidBag, c_InvalidQuery, c_InvalidStore, c_InvalidStep, c_InvalidPlan, c_InvalidTransition, c_InvalidScheme, c_InvalidEvent, c_InvalidSnapshot, c_InvalidTree, c_InvalidOperation, c_ParseError, i_ParseError, c_Stopped, i_Stopped, c_Wrong, i_Wrong, c_UnknownName, i_UnknownName, c_UnknownKey, i_UnknownKey, c_NothingToUndo, i_NothingToUndo, c_TooMany, i_TooMany, c_InvalidNumber, i_InvalidNumber⟩
  have T : Txt l.prog K mg A := ⟨PySem.W.mg_of X G a_ShelfError,
    k_ShelfError,
    b_ShelfError,
    PySem.W.mg_of X G a_InvalidTable,
    k_InvalidTable,
    b_InvalidTable,
    PySem.W.mg_of X G a_InvalidRow,
    k_InvalidRow,
    b_InvalidRow,
    PySem.W.mg_of X G a_InvalidBag,
    k_InvalidBag,
    b_InvalidBag,
    PySem.W.mg_of X G a_InvalidQuery,
    k_InvalidQuery,
    b_InvalidQuery,
    PySem.W.mg_of X G a_InvalidStore,
    k_InvalidStore,
    b_InvalidStore,
    PySem.W.mg_of X G a_InvalidStep,
    k_InvalidStep,
    b_InvalidStep,
    PySem.W.mg_of X G a_InvalidPlan,
    k_InvalidPlan,
    b_InvalidPlan,
    PySem.W.mg_of X G a_InvalidTransition,
    k_InvalidTransition,
    b_InvalidTransition,
    PySem.W.mg_of X G a_InvalidScheme,
    k_InvalidScheme,
    b_InvalidScheme,
    PySem.W.mg_of X G a_InvalidEvent,
    k_InvalidEvent,
    b_InvalidEvent,
    PySem.W.mg_of X G a_InvalidSnapshot,
    k_InvalidSnapshot,
    b_InvalidSnapshot,
    PySem.W.mg_of X G a_InvalidTree,
    k_InvalidTree,
    b_InvalidTree,
    PySem.W.mg_of X G a_InvalidOperation,
    k_InvalidOperation,
    b_InvalidOperation,
    PySem.W.mg_of X G a_ParseError,
    k_ParseError,
    t_ParseError,
    n_ParseError,
    PySem.W.mg_of X G a_Stopped,
    k_Stopped,
    t_Stopped,
    n_Stopped,
    PySem.W.mg_of X G a_Wrong,
    k_Wrong,
    t_Wrong,
    n_Wrong,
    PySem.W.mg_of X G a_UnknownName,
    k_UnknownName,
    t_UnknownName,
    n_UnknownName,
    PySem.W.mg_of X G a_UnknownKey,
    k_UnknownKey,
    t_UnknownKey,
    n_UnknownKey,
    PySem.W.mg_of X G a_NothingToUndo,
    k_NothingToUndo,
    t_NothingToUndo,
    n_NothingToUndo,
    PySem.W.mg_of X G a_TooMany,
    k_TooMany,
    t_TooMany,
    n_TooMany,
    PySem.W.mg_of X G a_InvalidNumber,
    k_InvalidNumber,
    t_InvalidNumber,
    n_InvalidNumber,
    nd,
    ⟨F_dice, b_dice, PySem.W.mg_of X G a_dice⟩,
    ⟨F_roll, b_roll, PySem.W.mg_of X G a_roll⟩,
    ⟨F_pick, b_pick, PySem.W.mg_of X G a_pick⟩,
    ⟨F_with_message, b_with_message, PySem.W.mg_of X G a_with_message⟩,
    ⟨F_keeping, b_keeping, PySem.W.mg_of X G a_keeping⟩,
    ⟨F_kept, b_kept, PySem.W.mg_of X G a_kept⟩,
    ⟨F_kinds, b_kinds, PySem.W.mg_of X G a_kinds⟩,
    ⟨F_kinds_kept, b_kinds_kept, PySem.W.mg_of X G a_kinds_kept⟩,
    ⟨F_kinds_of_python, b_kinds_of_python, PySem.W.mg_of X G a_kinds_of_python⟩,
    ⟨F_only, b_only, PySem.W.mg_of X G a_only⟩,
    ⟨F_raised, b_raised, PySem.W.mg_of X G a_raised⟩,
    ⟨F_caught, b_caught, PySem.W.mg_of X G a_caught⟩,
    ⟨F_word, b_word, PySem.W.mg_of X G a_word⟩,
    ⟨F_value, b_value, PySem.W.mg_of X G a_value⟩,
    ⟨F_right, b_right, PySem.W.mg_of X G a_right⟩,
    ⟨F_law, b_law, PySem.W.mg_of X G a_law⟩,
    PySem.W.mg_none_of X G z_ArithmeticError,
    PySem.W.mg_none_of X G z_IndexError,
    PySem.W.mg_none_of X G z_KeyError,
    PySem.W.mg_none_of X G z_LookupError,
    PySem.W.mg_none_of X G z_OverflowError,
    PySem.W.mg_none_of X G z_RuntimeError,
    PySem.W.mg_none_of X G z_ValueError,
    PySem.W.mg_none_of X G z_abs,
    PySem.W.mg_none_of X G z_int,
    PySem.W.mg_none_of X G z_isinstance,
    PySem.W.mg_none_of X G z_len,
    PySem.W.mg_none_of X G z_max,
    PySem.W.mg_none_of X G z_min,
    PySem.W.mg_none_of X G z_range,
    PySem.W.mg_none_of X G z_repr⟩
  exact ⟨A.o_law, fun s v => .of_eq rfl, fun base _ _ => ok_law T⟩
end Law
open PySem PySem.W PyProof.Rows
set_option maxRecDepth 100000 in
set_option maxHeartbeats 0 in
theorem PySem.Challenge.cw_shelfroutes_k00_errors_and_their_classes_holds : PySem.Challenge.rw_shelfroutes_k00_errors_and_their_classes.Holds := by
  w_on; o_law; k_head; (case hw => w_witness2)
  k_fill
  refine Vf.walkG (l := PySem.Challenge.rw_shelfroutes_k00_errors_and_their_classes) (n := 63) (k := 5) (x := "_law_script") (sp := Vf.spLaw) rfl (by decide) rfl ⟨rfl, by decide, by decide⟩ (fun w h Y => PySem.W.kIn_of Y) ?F (fun _ _ a ns hl _ hS => ⟨a, ns, rfl, hS, hl, fun _ => rfl⟩)
  case F =>
    intro w mg fa h KX G hmg
    refine' Law.all_mk KX G hmg ?a_dice ?l_dice ?c_dice ?k_dice ?a_roll ?l_roll ?c_roll ?k_roll ?a_pick ?l_pick ?c_pick ?k_pick ?a_with_message ?l_with_message ?c_with_message ?k_with_message ?a_keeping ?l_keeping ?c_keeping ?k_keeping ?a_kept ?l_kept ?c_kept ?k_kept ?a_kinds ?l_kinds ?c_kinds ?k_kinds ?a_kinds_kept ?l_kinds_kept ?c_kinds_kept ?k_kinds_kept ?a_kinds_of_python ?l_kinds_of_python ?c_kinds_of_python ?k_kinds_of_python ?a_only ?l_only ?c_only ?k_only ?a_raised ?l_raised ?c_raised ?k_raised ?a_caught ?l_caught ?c_caught ?k_caught ?a_word ?l_word ?c_word ?k_word ?a_value ?l_value ?c_value ?k_value ?a_right ?l_right ?c_right ?k_right ?a_law ?l_law ?c_law ?k_law ?a_ShelfError ?k_ShelfError ?b_ShelfError ?a_InvalidTable ?k_InvalidTable ?b_InvalidTable ?a_InvalidRow ?k_InvalidRow ?b_InvalidRow ?a_InvalidBag ?k_InvalidBag ?b_InvalidBag ?a_InvalidQuery ?k_InvalidQuery ?b_InvalidQuery ?a_InvalidStore ?k_InvalidStore ?b_InvalidStore ?a_InvalidStep ?k_InvalidStep ?b_InvalidStep ?a_InvalidPlan ?k_InvalidPlan ?b_InvalidPlan ?a_InvalidTransition ?k_InvalidTransition ?b_InvalidTransition ?a_InvalidScheme ?k_InvalidScheme ?b_InvalidScheme ?a_InvalidEvent ?k_InvalidEvent ?b_InvalidEvent ?a_InvalidSnapshot ?k_InvalidSnapshot ?b_InvalidSnapshot ?a_InvalidTree ?k_InvalidTree ?b_InvalidTree ?a_InvalidOperation ?k_InvalidOperation ?b_InvalidOperation ?a_ParseError ?k_ParseError ?t_ParseError ?n_ParseError ?a_Stopped ?k_Stopped ?t_Stopped ?n_Stopped ?a_Wrong ?k_Wrong ?t_Wrong ?n_Wrong ?a_UnknownName ?k_UnknownName ?t_UnknownName ?n_UnknownName ?a_UnknownKey ?k_UnknownKey ?t_UnknownKey ?n_UnknownKey ?a_NothingToUndo ?k_NothingToUndo ?t_NothingToUndo ?n_NothingToUndo ?a_TooMany ?k_TooMany ?t_TooMany ?n_TooMany ?a_InvalidNumber ?k_InvalidNumber ?t_InvalidNumber ?n_InvalidNumber ?nd ?z_ArithmeticError ?z_IndexError ?z_KeyError ?z_LookupError ?z_OverflowError ?z_RuntimeError ?z_ValueError ?z_abs ?z_int ?z_isinstance ?z_len ?z_max ?z_min ?z_range ?z_repr
    (case a_dice => k_is)
    (case l_dice => k_is)
    (case c_dice => k_is)
    (case k_dice => k_is)
    (case a_roll => k_is)
    (case l_roll => k_is)
    (case c_roll => k_is)
    (case k_roll => k_is)
    (case a_pick => k_is)
    (case l_pick => k_is)
    (case c_pick => k_is)
    (case k_pick => k_is)
    (case a_with_message => k_is)
    (case l_with_message => k_is)
    (case c_with_message => k_is)
    (case k_with_message => k_is)
    (case a_keeping => k_is)
    (case l_keeping => k_is)
    (case c_keeping => k_is)
    (case k_keeping => k_is)
    (case a_kept => k_is)
    (case l_kept => k_is)
    (case c_kept => k_is)
    (case k_kept => k_is)
    (case a_kinds => k_is)
    (case l_kinds => k_is)
    (case c_kinds => k_is)
    (case k_kinds => k_is)
    (case a_kinds_kept => k_is)
    (case l_kinds_kept => k_is)
    (case c_kinds_kept => k_is)
    (case k_kinds_kept => k_is)
    (case a_kinds_of_python => k_is)
    (case l_kinds_of_python => k_is)
    (case c_kinds_of_python => k_is)
    (case k_kinds_of_python => k_is)
    (case a_only => k_is)
    (case l_only => k_is)
    (case c_only => k_is)
    (case k_only => k_is)
    (case a_raised => k_is)
    (case l_raised => k_is)
    (case c_raised => k_is)
    (case k_raised => k_is)
    (case a_caught => k_is)
    (case l_caught => k_is)
    (case c_caught => k_is)
    (case k_caught => k_is)
    (case a_word => k_is)
    (case l_word => k_is)
    (case c_word => k_is)
    (case k_word => k_is)
    (case a_value => k_is)
    (case l_value => k_is)
    (case c_value => k_is)
    (case k_value => k_is)
    (case a_right => k_is)
    (case l_right => k_is)
    (case c_right => k_is)
    (case k_right => k_is)
    (case a_law => k_is)
    (case l_law => k_is)
    (case c_law => k_is)
    (case k_law => k_is)
    (case a_ShelfError => k_is)
    (case k_ShelfError => refine' Vf.errK_mk ?l_k_ShelfError ?ty_k_ShelfError ?ga_k_ShelfError ?gt_k_ShelfError ?sb_k_ShelfError ?ca_k_ShelfError ?cg_k_ShelfError ?ct_k_ShelfError ?ob_k_ShelfError; (case l_k_ShelfError => k_is); (case ty_k_ShelfError => k_is); (case ga_k_ShelfError => k_is); (case gt_k_ShelfError => k_is); (case sb_k_ShelfError => k_is); (case ca_k_ShelfError => k_is); (case cg_k_ShelfError => k_is); (case ct_k_ShelfError => k_is); (case ob_k_ShelfError => k_is))
    (case b_ShelfError => refine' Vf.errB_mk ?l_b_ShelfError (fun _ => rfl) ?i_b_ShelfError ?k_b_ShelfError; (case l_b_ShelfError => k_is); (case i_b_ShelfError => k_is); (case k_b_ShelfError => k_is))
    (case a_InvalidTable => k_is)
    (case k_InvalidTable => refine' Vf.errK_mk ?l_k_InvalidTable ?ty_k_InvalidTable ?ga_k_InvalidTable ?gt_k_InvalidTable ?sb_k_InvalidTable ?ca_k_InvalidTable ?cg_k_InvalidTable ?ct_k_InvalidTable ?ob_k_InvalidTable; (case l_k_InvalidTable => k_is); (case ty_k_InvalidTable => k_is); (case ga_k_InvalidTable => k_is); (case gt_k_InvalidTable => k_is); (case sb_k_InvalidTable => k_is); (case ca_k_InvalidTable => k_is); (case cg_k_InvalidTable => k_is); (case ct_k_InvalidTable => k_is); (case ob_k_InvalidTable => k_is))
    (case b_InvalidTable => refine' Vf.errB_mk ?l_b_InvalidTable (fun x => Vf.ve_ref x) ?i_b_InvalidTable ?k_b_InvalidTable; (case l_b_InvalidTable => k_is); (case i_b_InvalidTable => k_is); (case k_b_InvalidTable => k_is))
    (case a_InvalidRow => k_is)
    (case k_InvalidRow => refine' Vf.errK_mk ?l_k_InvalidRow ?ty_k_InvalidRow ?ga_k_InvalidRow ?gt_k_InvalidRow ?sb_k_InvalidRow ?ca_k_InvalidRow ?cg_k_InvalidRow ?ct_k_InvalidRow ?ob_k_InvalidRow; (case l_k_InvalidRow => k_is); (case ty_k_InvalidRow => k_is); (case ga_k_InvalidRow => k_is); (case gt_k_InvalidRow => k_is); (case sb_k_InvalidRow => k_is); (case ca_k_InvalidRow => k_is); (case cg_k_InvalidRow => k_is); (case ct_k_InvalidRow => k_is); (case ob_k_InvalidRow => k_is))
    (case b_InvalidRow => refine' Vf.errB_mk ?l_b_InvalidRow (fun x => Vf.ve_ref x) ?i_b_InvalidRow ?k_b_InvalidRow; (case l_b_InvalidRow => k_is); (case i_b_InvalidRow => k_is); (case k_b_InvalidRow => k_is))
    (case a_InvalidBag => k_is)
    (case k_InvalidBag => refine' Vf.errK_mk ?l_k_InvalidBag ?ty_k_InvalidBag ?ga_k_InvalidBag ?gt_k_InvalidBag ?sb_k_InvalidBag ?ca_k_InvalidBag ?cg_k_InvalidBag ?ct_k_InvalidBag ?ob_k_InvalidBag; (case l_k_InvalidBag => k_is); (case ty_k_InvalidBag => k_is); (case ga_k_InvalidBag => k_is); (case gt_k_InvalidBag => k_is); (case sb_k_InvalidBag => k_is); (case ca_k_InvalidBag => k_is); (case cg_k_InvalidBag => k_is); (case ct_k_InvalidBag => k_is); (case ob_k_InvalidBag => k_is))
    (case b_InvalidBag => refine' Vf.errB_mk ?l_b_InvalidBag (fun x => Vf.ve_ref x) ?i_b_InvalidBag ?k_b_InvalidBag; (case l_b_InvalidBag => k_is); (case i_b_InvalidBag => k_is); (case k_b_InvalidBag => k_is))
    (case a_InvalidQuery => k_is)
    (case k_InvalidQuery => refine' Vf.errK_mk ?l_k_InvalidQuery ?ty_k_InvalidQuery ?ga_k_InvalidQuery ?gt_k_InvalidQuery ?sb_k_InvalidQuery ?ca_k_InvalidQuery ?cg_k_InvalidQuery ?ct_k_InvalidQuery ?ob_k_InvalidQuery; (case l_k_InvalidQuery => k_is); (case ty_k_InvalidQuery => k_is); (case ga_k_InvalidQuery => k_is); (case gt_k_InvalidQuery => k_is); (case sb_k_InvalidQuery => k_is); (case ca_k_InvalidQuery => k_is); (case cg_k_InvalidQuery => k_is); (case ct_k_InvalidQuery => k_is); (case ob_k_InvalidQuery => k_is))
    (case b_InvalidQuery => refine' Vf.errB_mk ?l_b_InvalidQuery (fun x => Vf.ve_ref x) ?i_b_InvalidQuery ?k_b_InvalidQuery; (case l_b_InvalidQuery => k_is); (case i_b_InvalidQuery => k_is); (case k_b_InvalidQuery => k_is))
    (case a_InvalidStore => k_is)
    (case k_InvalidStore => refine' Vf.errK_mk ?l_k_InvalidStore ?ty_k_InvalidStore ?ga_k_InvalidStore ?gt_k_InvalidStore ?sb_k_InvalidStore ?ca_k_InvalidStore ?cg_k_InvalidStore ?ct_k_InvalidStore ?ob_k_InvalidStore; (case l_k_InvalidStore => k_is); (case ty_k_InvalidStore => k_is); (case ga_k_InvalidStore => k_is); (case gt_k_InvalidStore => k_is); (case sb_k_InvalidStore => k_is); (case ca_k_InvalidStore => k_is); (case cg_k_InvalidStore => k_is); (case ct_k_InvalidStore => k_is); (case ob_k_InvalidStore => k_is))
    (case b_InvalidStore => refine' Vf.errB_mk ?l_b_InvalidStore (fun x => Vf.ve_ref x) ?i_b_InvalidStore ?k_b_InvalidStore; (case l_b_InvalidStore => k_is); (case i_b_InvalidStore => k_is); (case k_b_InvalidStore => k_is))
    (case a_InvalidStep => k_is)
    (case k_InvalidStep => refine' Vf.errK_mk ?l_k_InvalidStep ?ty_k_InvalidStep ?ga_k_InvalidStep ?gt_k_InvalidStep ?sb_k_InvalidStep ?ca_k_InvalidStep ?cg_k_InvalidStep ?ct_k_InvalidStep ?ob_k_InvalidStep; (case l_k_InvalidStep => k_is); (case ty_k_InvalidStep => k_is); (case ga_k_InvalidStep => k_is); (case gt_k_InvalidStep => k_is); (case sb_k_InvalidStep => k_is); (case ca_k_InvalidStep => k_is); (case cg_k_InvalidStep => k_is); (case ct_k_InvalidStep => k_is); (case ob_k_InvalidStep => k_is))
    (case b_InvalidStep => refine' Vf.errB_mk ?l_b_InvalidStep (fun x => Vf.ve_ref x) ?i_b_InvalidStep ?k_b_InvalidStep; (case l_b_InvalidStep => k_is); (case i_b_InvalidStep => k_is); (case k_b_InvalidStep => k_is))
    (case a_InvalidPlan => k_is)
    (case k_InvalidPlan => refine' Vf.errK_mk ?l_k_InvalidPlan ?ty_k_InvalidPlan ?ga_k_InvalidPlan ?gt_k_InvalidPlan ?sb_k_InvalidPlan ?ca_k_InvalidPlan ?cg_k_InvalidPlan ?ct_k_InvalidPlan ?ob_k_InvalidPlan; (case l_k_InvalidPlan => k_is); (case ty_k_InvalidPlan => k_is); (case ga_k_InvalidPlan => k_is); (case gt_k_InvalidPlan => k_is); (case sb_k_InvalidPlan => k_is); (case ca_k_InvalidPlan => k_is); (case cg_k_InvalidPlan => k_is); (case ct_k_InvalidPlan => k_is); (case ob_k_InvalidPlan => k_is))
    (case b_InvalidPlan => refine' Vf.errB_mk ?l_b_InvalidPlan (fun x => Vf.ve_ref x) ?i_b_InvalidPlan ?k_b_InvalidPlan; (case l_b_InvalidPlan => k_is); (case i_b_InvalidPlan => k_is); (case k_b_InvalidPlan => k_is))
    (case a_InvalidTransition => k_is)
    (case k_InvalidTransition => refine' Vf.errK_mk ?l_k_InvalidTransition ?ty_k_InvalidTransition ?ga_k_InvalidTransition ?gt_k_InvalidTransition ?sb_k_InvalidTransition ?ca_k_InvalidTransition ?cg_k_InvalidTransition ?ct_k_InvalidTransition ?ob_k_InvalidTransition; (case l_k_InvalidTransition => k_is); (case ty_k_InvalidTransition => k_is); (case ga_k_InvalidTransition => k_is); (case gt_k_InvalidTransition => k_is); (case sb_k_InvalidTransition => k_is); (case ca_k_InvalidTransition => k_is); (case cg_k_InvalidTransition => k_is); (case ct_k_InvalidTransition => k_is); (case ob_k_InvalidTransition => k_is))
    (case b_InvalidTransition => refine' Vf.errB_mk ?l_b_InvalidTransition (fun x => Vf.ve_ref x) ?i_b_InvalidTransition ?k_b_InvalidTransition; (case l_b_InvalidTransition => k_is); (case i_b_InvalidTransition => k_is); (case k_b_InvalidTransition => k_is))
    (case a_InvalidScheme => k_is)
    (case k_InvalidScheme => refine' Vf.errK_mk ?l_k_InvalidScheme ?ty_k_InvalidScheme ?ga_k_InvalidScheme ?gt_k_InvalidScheme ?sb_k_InvalidScheme ?ca_k_InvalidScheme ?cg_k_InvalidScheme ?ct_k_InvalidScheme ?ob_k_InvalidScheme; (case l_k_InvalidScheme => k_is); (case ty_k_InvalidScheme => k_is); (case ga_k_InvalidScheme => k_is); (case gt_k_InvalidScheme => k_is); (case sb_k_InvalidScheme => k_is); (case ca_k_InvalidScheme => k_is); (case cg_k_InvalidScheme => k_is); (case ct_k_InvalidScheme => k_is); (case ob_k_InvalidScheme => k_is))
    (case b_InvalidScheme => refine' Vf.errB_mk ?l_b_InvalidScheme (fun x => Vf.ve_ref x) ?i_b_InvalidScheme ?k_b_InvalidScheme; (case l_b_InvalidScheme => k_is); (case i_b_InvalidScheme => k_is); (case k_b_InvalidScheme => k_is))
    (case a_InvalidEvent => k_is)
    (case k_InvalidEvent => refine' Vf.errK_mk ?l_k_InvalidEvent ?ty_k_InvalidEvent ?ga_k_InvalidEvent ?gt_k_InvalidEvent ?sb_k_InvalidEvent ?ca_k_InvalidEvent ?cg_k_InvalidEvent ?ct_k_InvalidEvent ?ob_k_InvalidEvent; (case l_k_InvalidEvent => k_is); (case ty_k_InvalidEvent => k_is); (case ga_k_InvalidEvent => k_is); (case gt_k_InvalidEvent => k_is); (case sb_k_InvalidEvent => k_is); (case ca_k_InvalidEvent => k_is); (case cg_k_InvalidEvent => k_is); (case ct_k_InvalidEvent => k_is); (case ob_k_InvalidEvent => k_is))
    (case b_InvalidEvent => refine' Vf.errB_mk ?l_b_InvalidEvent (fun x => Vf.ve_ref x) ?i_b_InvalidEvent ?k_b_InvalidEvent; (case l_b_InvalidEvent => k_is); (case i_b_InvalidEvent => k_is); (case k_b_InvalidEvent => k_is))
    (case a_InvalidSnapshot => k_is)
    (case k_InvalidSnapshot => refine' Vf.errK_mk ?l_k_InvalidSnapshot ?ty_k_InvalidSnapshot ?ga_k_InvalidSnapshot ?gt_k_InvalidSnapshot ?sb_k_InvalidSnapshot ?ca_k_InvalidSnapshot ?cg_k_InvalidSnapshot ?ct_k_InvalidSnapshot ?ob_k_InvalidSnapshot; (case l_k_InvalidSnapshot => k_is); (case ty_k_InvalidSnapshot => k_is); (case ga_k_InvalidSnapshot => k_is); (case gt_k_InvalidSnapshot => k_is); (case sb_k_InvalidSnapshot => k_is); (case ca_k_InvalidSnapshot => k_is); (case cg_k_InvalidSnapshot => k_is); (case ct_k_InvalidSnapshot => k_is); (case ob_k_InvalidSnapshot => k_is))
    (case b_InvalidSnapshot => refine' Vf.errB_mk ?l_b_InvalidSnapshot (fun x => Vf.ve_ref x) ?i_b_InvalidSnapshot ?k_b_InvalidSnapshot; (case l_b_InvalidSnapshot => k_is); (case i_b_InvalidSnapshot => k_is); (case k_b_InvalidSnapshot => k_is))
    (case a_InvalidTree => k_is)
    (case k_InvalidTree => refine' Vf.errK_mk ?l_k_InvalidTree ?ty_k_InvalidTree ?ga_k_InvalidTree ?gt_k_InvalidTree ?sb_k_InvalidTree ?ca_k_InvalidTree ?cg_k_InvalidTree ?ct_k_InvalidTree ?ob_k_InvalidTree; (case l_k_InvalidTree => k_is); (case ty_k_InvalidTree => k_is); (case ga_k_InvalidTree => k_is); (case gt_k_InvalidTree => k_is); (case sb_k_InvalidTree => k_is); (case ca_k_InvalidTree => k_is); (case cg_k_InvalidTree => k_is); (case ct_k_InvalidTree => k_is); (case ob_k_InvalidTree => k_is))
    (case b_InvalidTree => refine' Vf.errB_mk ?l_b_InvalidTree (fun x => Vf.ve_ref x) ?i_b_InvalidTree ?k_b_InvalidTree; (case l_b_InvalidTree => k_is); (case i_b_InvalidTree => k_is); (case k_b_InvalidTree => k_is))
    (case a_InvalidOperation => k_is)
    (case k_InvalidOperation => refine' Vf.errK_mk ?l_k_InvalidOperation ?ty_k_InvalidOperation ?ga_k_InvalidOperation ?gt_k_InvalidOperation ?sb_k_InvalidOperation ?ca_k_InvalidOperation ?cg_k_InvalidOperation ?ct_k_InvalidOperation ?ob_k_InvalidOperation; (case l_k_InvalidOperation => k_is); (case ty_k_InvalidOperation => k_is); (case ga_k_InvalidOperation => k_is); (case gt_k_InvalidOperation => k_is); (case sb_k_InvalidOperation => k_is); (case ca_k_InvalidOperation => k_is); (case cg_k_InvalidOperation => k_is); (case ct_k_InvalidOperation => k_is); (case ob_k_InvalidOperation => k_is))
    (case b_InvalidOperation => refine' Vf.errB_mk ?l_b_InvalidOperation (fun x => Vf.ve_ref x) ?i_b_InvalidOperation ?k_b_InvalidOperation; (case l_b_InvalidOperation => k_is); (case i_b_InvalidOperation => k_is); (case k_b_InvalidOperation => k_is))
    (case a_ParseError => k_is)
    (case k_ParseError => refine' Vf.errK_mk ?l_k_ParseError ?ty_k_ParseError ?ga_k_ParseError ?gt_k_ParseError ?sb_k_ParseError ?ca_k_ParseError ?cg_k_ParseError ?ct_k_ParseError ?ob_k_ParseError; (case l_k_ParseError => k_is); (case ty_k_ParseError => k_is); (case ga_k_ParseError => k_is); (case gt_k_ParseError => k_is); (case sb_k_ParseError => k_is); (case ca_k_ParseError => k_is); (case cg_k_ParseError => k_is); (case ct_k_ParseError => k_is); (case ob_k_ParseError => k_is))
    (case t_ParseError => refine' Vf.errT_mk (F := PySem.F.excBase_ValueError) (I := (Vf.InitB.of PySem.F.excBase_ValueError.toExcCallFacts PySem.W.kxs_ValueError)) (SF := PySem.F.store_ValueError) (Y := ?Y_t_ParseError) ?l_t_ParseError ?kC_t_ParseError ?iC_t_ParseError ?fn_t_ParseError ?sb_t_ParseError ?ov_t_ParseError ?me_t_ParseError ?sa_t_ParseError ?tk_t_ParseError ?hd_t_ParseError ?tp_t_ParseError ?sup_t_ParseError ?al_t_ParseError ?lf_t_ParseError ?cd_t_ParseError ?bd_t_ParseError ?hp_t_ParseError ?lc_t_ParseError ?hv_t_ParseError ?hf_t_ParseError ?lcc_t_ParseError ?s1_t_ParseError ?s2_t_ParseError ?s3_t_ParseError ?s4_t_ParseError ?sk_t_ParseError ?sc1_t_ParseError ?sc2_t_ParseError ?sc3_t_ParseError ?Z_t_ParseError ?ht_t_ParseError; (case l_t_ParseError => k_is); (case Y_t_ParseError => exact ⟨by rfl, by rfl, by rfl⟩); (case iC_t_ParseError => k_is); (case kC_t_ParseError => k_is); (case fn_t_ParseError => k_is); (case sb_t_ParseError => k_is); (case ov_t_ParseError => kx_is); (case me_t_ParseError => k_is); (case sa_t_ParseError => k_is); (case tk_t_ParseError => k_is); (case hd_t_ParseError => k_is); (case tp_t_ParseError => k_is); (case sup_t_ParseError => exact PySem.W.mg_none_of KX G (by k_is)); (case al_t_ParseError => exact (by refine' Vf.along_of ?la_t_ParseError ?ia_t_ParseError; (case la_t_ParseError => k_is); (case ia_t_ParseError => k_is))); (case lf_t_ParseError => k_is); (case cd_t_ParseError => k_is); (case lc_t_ParseError => k_is); (case lcc_t_ParseError => k_is); (case bd_t_ParseError => exact fun _ _ _ => .of_eq rfl); (case hp_t_ParseError => rfl); (case hv_t_ParseError => rfl); (case hf_t_ParseError => rfl); (case s1_t_ParseError => rfl); (case s2_t_ParseError => rfl); (case s3_t_ParseError => rfl); (case s4_t_ParseError => rfl); (case sk_t_ParseError => rfl); (case sc1_t_ParseError => rfl); (case sc2_t_ParseError => rfl); (case sc3_t_ParseError => decide); (case Z_t_ParseError => exact ⟨⟨_, fun _ => rfl⟩, fun _ => rfl, fun _ => rfl, by show 1 ≤ PySem.sizeLine; rw [PySem.sizeLine_eq]; omega, by decide, by decide⟩); (case ht_t_ParseError => rfl))
    (case n_ParseError => k_is)
    (case a_Stopped => k_is)
    (case k_Stopped => refine' Vf.errK_mk ?l_k_Stopped ?ty_k_Stopped ?ga_k_Stopped ?gt_k_Stopped ?sb_k_Stopped ?ca_k_Stopped ?cg_k_Stopped ?ct_k_Stopped ?ob_k_Stopped; (case l_k_Stopped => k_is); (case ty_k_Stopped => k_is); (case ga_k_Stopped => k_is); (case gt_k_Stopped => k_is); (case sb_k_Stopped => k_is); (case ca_k_Stopped => k_is); (case cg_k_Stopped => k_is); (case ct_k_Stopped => k_is); (case ob_k_Stopped => k_is))
    (case t_Stopped => refine' Vf.errT_mk (F := PySem.F.excBase_ValueError) (I := (Vf.InitB.of PySem.F.excBase_ValueError.toExcCallFacts PySem.W.kxs_ValueError)) (SF := PySem.F.store_ValueError) (Y := ?Y_t_Stopped) ?l_t_Stopped ?kC_t_Stopped ?iC_t_Stopped ?fn_t_Stopped ?sb_t_Stopped ?ov_t_Stopped ?me_t_Stopped ?sa_t_Stopped ?tk_t_Stopped ?hd_t_Stopped ?tp_t_Stopped ?sup_t_Stopped ?al_t_Stopped ?lf_t_Stopped ?cd_t_Stopped ?bd_t_Stopped ?hp_t_Stopped ?lc_t_Stopped ?hv_t_Stopped ?hf_t_Stopped ?lcc_t_Stopped ?s1_t_Stopped ?s2_t_Stopped ?s3_t_Stopped ?s4_t_Stopped ?sk_t_Stopped ?sc1_t_Stopped ?sc2_t_Stopped ?sc3_t_Stopped ?Z_t_Stopped ?ht_t_Stopped; (case l_t_Stopped => k_is); (case Y_t_Stopped => exact ⟨by rfl, by rfl, by rfl⟩); (case iC_t_Stopped => k_is); (case kC_t_Stopped => k_is); (case fn_t_Stopped => k_is); (case sb_t_Stopped => k_is); (case ov_t_Stopped => kx_is); (case me_t_Stopped => k_is); (case sa_t_Stopped => k_is); (case tk_t_Stopped => k_is); (case hd_t_Stopped => k_is); (case tp_t_Stopped => k_is); (case sup_t_Stopped => exact PySem.W.mg_none_of KX G (by k_is)); (case al_t_Stopped => exact (by refine' Vf.along_of ?la_t_Stopped ?ia_t_Stopped; (case la_t_Stopped => k_is); (case ia_t_Stopped => k_is))); (case lf_t_Stopped => k_is); (case cd_t_Stopped => k_is); (case lc_t_Stopped => k_is); (case lcc_t_Stopped => k_is); (case bd_t_Stopped => exact fun _ _ _ => .of_eq rfl); (case hp_t_Stopped => rfl); (case hv_t_Stopped => rfl); (case hf_t_Stopped => rfl); (case s1_t_Stopped => rfl); (case s2_t_Stopped => rfl); (case s3_t_Stopped => rfl); (case s4_t_Stopped => rfl); (case sk_t_Stopped => rfl); (case sc1_t_Stopped => rfl); (case sc2_t_Stopped => rfl); (case sc3_t_Stopped => decide); (case Z_t_Stopped => exact ⟨⟨_, fun _ => rfl⟩, fun _ => rfl, fun _ => rfl, by show 1 ≤ PySem.sizeLine; rw [PySem.sizeLine_eq]; omega, by decide, by decide⟩); (case ht_t_Stopped => rfl))
    (case n_Stopped => k_is)
    (case a_Wrong => k_is)
    (case k_Wrong => refine' Vf.errK_mk ?l_k_Wrong ?ty_k_Wrong ?ga_k_Wrong ?gt_k_Wrong ?sb_k_Wrong ?ca_k_Wrong ?cg_k_Wrong ?ct_k_Wrong ?ob_k_Wrong; (case l_k_Wrong => k_is); (case ty_k_Wrong => k_is); (case ga_k_Wrong => k_is); (case gt_k_Wrong => k_is); (case sb_k_Wrong => k_is); (case ca_k_Wrong => k_is); (case cg_k_Wrong => k_is); (case ct_k_Wrong => k_is); (case ob_k_Wrong => k_is))
    (case t_Wrong => refine' Vf.errT_mk (F := PySem.F.excBase_ValueError) (I := (Vf.InitB.of PySem.F.excBase_ValueError.toExcCallFacts PySem.W.kxs_ValueError)) (SF := PySem.F.store_ValueError) (Y := ?Y_t_Wrong) ?l_t_Wrong ?kC_t_Wrong ?iC_t_Wrong ?fn_t_Wrong ?sb_t_Wrong ?ov_t_Wrong ?me_t_Wrong ?sa_t_Wrong ?tk_t_Wrong ?hd_t_Wrong ?tp_t_Wrong ?sup_t_Wrong ?al_t_Wrong ?lf_t_Wrong ?cd_t_Wrong ?bd_t_Wrong ?hp_t_Wrong ?lc_t_Wrong ?hv_t_Wrong ?hf_t_Wrong ?lcc_t_Wrong ?s1_t_Wrong ?s2_t_Wrong ?s3_t_Wrong ?s4_t_Wrong ?sk_t_Wrong ?sc1_t_Wrong ?sc2_t_Wrong ?sc3_t_Wrong ?Z_t_Wrong ?ht_t_Wrong; (case l_t_Wrong => k_is); (case Y_t_Wrong => exact ⟨by rfl, by rfl, by rfl⟩); (case iC_t_Wrong => k_is); (case kC_t_Wrong => k_is); (case fn_t_Wrong => k_is); (case sb_t_Wrong => k_is); (case ov_t_Wrong => kx_is); (case me_t_Wrong => k_is); (case sa_t_Wrong => k_is); (case tk_t_Wrong => k_is); (case hd_t_Wrong => k_is); (case tp_t_Wrong => k_is); (case sup_t_Wrong => exact PySem.W.mg_none_of KX G (by k_is)); (case al_t_Wrong => exact (by refine' Vf.along_of ?la_t_Wrong ?ia_t_Wrong; (case la_t_Wrong => k_is); (case ia_t_Wrong => k_is))); (case lf_t_Wrong => k_is); (case cd_t_Wrong => k_is); (case lc_t_Wrong => k_is); (case lcc_t_Wrong => k_is); (case bd_t_Wrong => exact fun _ _ _ => .of_eq rfl); (case hp_t_Wrong => rfl); (case hv_t_Wrong => rfl); (case hf_t_Wrong => rfl); (case s1_t_Wrong => rfl); (case s2_t_Wrong => rfl); (case s3_t_Wrong => rfl); (case s4_t_Wrong => rfl); (case sk_t_Wrong => rfl); (case sc1_t_Wrong => rfl); (case sc2_t_Wrong => rfl); (case sc3_t_Wrong => decide); (case Z_t_Wrong => exact ⟨⟨_, fun _ => rfl⟩, fun _ => rfl, fun _ => rfl, by show 1 ≤ PySem.sizeLine; rw [PySem.sizeLine_eq]; omega, by decide, by decide⟩); (case ht_t_Wrong => rfl))
    (case n_Wrong => k_is)
    (case a_UnknownName => k_is)
    (case k_UnknownName => refine' Vf.errK_mk ?l_k_UnknownName ?ty_k_UnknownName ?ga_k_UnknownName ?gt_k_UnknownName ?sb_k_UnknownName ?ca_k_UnknownName ?cg_k_UnknownName ?ct_k_UnknownName ?ob_k_UnknownName; (case l_k_UnknownName => k_is); (case ty_k_UnknownName => k_is); (case ga_k_UnknownName => k_is); (case gt_k_UnknownName => k_is); (case sb_k_UnknownName => k_is); (case ca_k_UnknownName => k_is); (case cg_k_UnknownName => k_is); (case ct_k_UnknownName => k_is); (case ob_k_UnknownName => k_is))
    (case t_UnknownName => refine' Vf.errT_mk (F := PySem.F.excBase_LookupError) (I := Vf.initB_KeyError) (SF := Vf.store_KeyError) (Y := ?Y_t_UnknownName) ?l_t_UnknownName ?kC_t_UnknownName ?iC_t_UnknownName ?fn_t_UnknownName ?sb_t_UnknownName ?ov_t_UnknownName ?me_t_UnknownName ?sa_t_UnknownName ?tk_t_UnknownName ?hd_t_UnknownName ?tp_t_UnknownName ?sup_t_UnknownName ?al_t_UnknownName ?lf_t_UnknownName ?cd_t_UnknownName ?bd_t_UnknownName ?hp_t_UnknownName ?lc_t_UnknownName ?hv_t_UnknownName ?hf_t_UnknownName ?lcc_t_UnknownName ?s1_t_UnknownName ?s2_t_UnknownName ?s3_t_UnknownName ?s4_t_UnknownName ?sk_t_UnknownName ?sc1_t_UnknownName ?sc2_t_UnknownName ?sc3_t_UnknownName ?Z_t_UnknownName ?ht_t_UnknownName; (case l_t_UnknownName => k_is); (case Y_t_UnknownName => exact ⟨by rfl, by rfl, by rfl⟩); (case iC_t_UnknownName => k_is); (case kC_t_UnknownName => k_is); (case fn_t_UnknownName => k_is); (case sb_t_UnknownName => k_is); (case ov_t_UnknownName => kx_is); (case me_t_UnknownName => k_is); (case sa_t_UnknownName => k_is); (case tk_t_UnknownName => k_is); (case hd_t_UnknownName => k_is); (case tp_t_UnknownName => k_is); (case sup_t_UnknownName => exact PySem.W.mg_none_of KX G (by k_is)); (case al_t_UnknownName => exact (by rfl)); (case lf_t_UnknownName => k_is); (case cd_t_UnknownName => k_is); (case lc_t_UnknownName => k_is); (case lcc_t_UnknownName => k_is); (case bd_t_UnknownName => exact fun _ _ _ => .of_eq rfl); (case hp_t_UnknownName => rfl); (case hv_t_UnknownName => rfl); (case hf_t_UnknownName => rfl); (case s1_t_UnknownName => rfl); (case s2_t_UnknownName => rfl); (case s3_t_UnknownName => rfl); (case s4_t_UnknownName => rfl); (case sk_t_UnknownName => rfl); (case sc1_t_UnknownName => rfl); (case sc2_t_UnknownName => rfl); (case sc3_t_UnknownName => decide); (case Z_t_UnknownName => exact ⟨⟨_, fun _ => rfl⟩, fun _ => rfl, fun _ => rfl, by show 1 ≤ PySem.sizeLine; rw [PySem.sizeLine_eq]; omega, by decide, by decide⟩); (case ht_t_UnknownName => rfl))
    (case n_UnknownName => k_is)
    (case a_UnknownKey => k_is)
    (case k_UnknownKey => refine' Vf.errK_mk ?l_k_UnknownKey ?ty_k_UnknownKey ?ga_k_UnknownKey ?gt_k_UnknownKey ?sb_k_UnknownKey ?ca_k_UnknownKey ?cg_k_UnknownKey ?ct_k_UnknownKey ?ob_k_UnknownKey; (case l_k_UnknownKey => k_is); (case ty_k_UnknownKey => k_is); (case ga_k_UnknownKey => k_is); (case gt_k_UnknownKey => k_is); (case sb_k_UnknownKey => k_is); (case ca_k_UnknownKey => k_is); (case cg_k_UnknownKey => k_is); (case ct_k_UnknownKey => k_is); (case ob_k_UnknownKey => k_is))
    (case t_UnknownKey => refine' Vf.errT_mk (F := PySem.F.excBase_IndexError) (I := (Vf.InitB.of PySem.F.excBase_IndexError.toExcCallFacts PySem.W.kxs_IndexError)) (SF := PySem.F.store_IndexError) (Y := ?Y_t_UnknownKey) ?l_t_UnknownKey ?kC_t_UnknownKey ?iC_t_UnknownKey ?fn_t_UnknownKey ?sb_t_UnknownKey ?ov_t_UnknownKey ?me_t_UnknownKey ?sa_t_UnknownKey ?tk_t_UnknownKey ?hd_t_UnknownKey ?tp_t_UnknownKey ?sup_t_UnknownKey ?al_t_UnknownKey ?lf_t_UnknownKey ?cd_t_UnknownKey ?bd_t_UnknownKey ?hp_t_UnknownKey ?lc_t_UnknownKey ?hv_t_UnknownKey ?hf_t_UnknownKey ?lcc_t_UnknownKey ?s1_t_UnknownKey ?s2_t_UnknownKey ?s3_t_UnknownKey ?s4_t_UnknownKey ?sk_t_UnknownKey ?sc1_t_UnknownKey ?sc2_t_UnknownKey ?sc3_t_UnknownKey ?Z_t_UnknownKey ?ht_t_UnknownKey; (case l_t_UnknownKey => k_is); (case Y_t_UnknownKey => exact ⟨by rfl, by rfl, by rfl⟩); (case iC_t_UnknownKey => k_is); (case kC_t_UnknownKey => k_is); (case fn_t_UnknownKey => k_is); (case sb_t_UnknownKey => k_is); (case ov_t_UnknownKey => kx_is); (case me_t_UnknownKey => k_is); (case sa_t_UnknownKey => k_is); (case tk_t_UnknownKey => k_is); (case hd_t_UnknownKey => k_is); (case tp_t_UnknownKey => k_is); (case sup_t_UnknownKey => exact PySem.W.mg_none_of KX G (by k_is)); (case al_t_UnknownKey => exact (by rfl)); (case lf_t_UnknownKey => k_is); (case cd_t_UnknownKey => k_is); (case lc_t_UnknownKey => k_is); (case lcc_t_UnknownKey => k_is); (case bd_t_UnknownKey => exact fun _ _ _ => .of_eq rfl); (case hp_t_UnknownKey => rfl); (case hv_t_UnknownKey => rfl); (case hf_t_UnknownKey => rfl); (case s1_t_UnknownKey => rfl); (case s2_t_UnknownKey => rfl); (case s3_t_UnknownKey => rfl); (case s4_t_UnknownKey => rfl); (case sk_t_UnknownKey => rfl); (case sc1_t_UnknownKey => rfl); (case sc2_t_UnknownKey => rfl); (case sc3_t_UnknownKey => decide); (case Z_t_UnknownKey => exact ⟨⟨_, fun _ => rfl⟩, fun _ => rfl, fun _ => rfl, by show 1 ≤ PySem.sizeLine; rw [PySem.sizeLine_eq]; omega, by decide, by decide⟩); (case ht_t_UnknownKey => rfl))
    (case n_UnknownKey => k_is)
    (case a_NothingToUndo => k_is)
    (case k_NothingToUndo => refine' Vf.errK_mk ?l_k_NothingToUndo ?ty_k_NothingToUndo ?ga_k_NothingToUndo ?gt_k_NothingToUndo ?sb_k_NothingToUndo ?ca_k_NothingToUndo ?cg_k_NothingToUndo ?ct_k_NothingToUndo ?ob_k_NothingToUndo; (case l_k_NothingToUndo => k_is); (case ty_k_NothingToUndo => k_is); (case ga_k_NothingToUndo => k_is); (case gt_k_NothingToUndo => k_is); (case sb_k_NothingToUndo => k_is); (case ca_k_NothingToUndo => k_is); (case cg_k_NothingToUndo => k_is); (case ct_k_NothingToUndo => k_is); (case ob_k_NothingToUndo => k_is))
    (case t_NothingToUndo => refine' Vf.errT_mk (F := PySem.F.excBase_LookupError) (I := (Vf.InitB.of PySem.F.excBase_LookupError.toExcCallFacts PySem.W.kxs_LookupError)) (SF := PySem.F.store_LookupError) (Y := ?Y_t_NothingToUndo) ?l_t_NothingToUndo ?kC_t_NothingToUndo ?iC_t_NothingToUndo ?fn_t_NothingToUndo ?sb_t_NothingToUndo ?ov_t_NothingToUndo ?me_t_NothingToUndo ?sa_t_NothingToUndo ?tk_t_NothingToUndo ?hd_t_NothingToUndo ?tp_t_NothingToUndo ?sup_t_NothingToUndo ?al_t_NothingToUndo ?lf_t_NothingToUndo ?cd_t_NothingToUndo ?bd_t_NothingToUndo ?hp_t_NothingToUndo ?lc_t_NothingToUndo ?hv_t_NothingToUndo ?hf_t_NothingToUndo ?lcc_t_NothingToUndo ?s1_t_NothingToUndo ?s2_t_NothingToUndo ?s3_t_NothingToUndo ?s4_t_NothingToUndo ?sk_t_NothingToUndo ?sc1_t_NothingToUndo ?sc2_t_NothingToUndo ?sc3_t_NothingToUndo ?Z_t_NothingToUndo ?ht_t_NothingToUndo; (case l_t_NothingToUndo => k_is); (case Y_t_NothingToUndo => exact ⟨by rfl, by rfl, by rfl⟩); (case iC_t_NothingToUndo => k_is); (case kC_t_NothingToUndo => k_is); (case fn_t_NothingToUndo => k_is); (case sb_t_NothingToUndo => k_is); (case ov_t_NothingToUndo => kx_is); (case me_t_NothingToUndo => k_is); (case sa_t_NothingToUndo => k_is); (case tk_t_NothingToUndo => k_is); (case hd_t_NothingToUndo => k_is); (case tp_t_NothingToUndo => k_is); (case sup_t_NothingToUndo => exact PySem.W.mg_none_of KX G (by k_is)); (case al_t_NothingToUndo => exact (by rfl)); (case lf_t_NothingToUndo => k_is); (case cd_t_NothingToUndo => k_is); (case lc_t_NothingToUndo => k_is); (case lcc_t_NothingToUndo => k_is); (case bd_t_NothingToUndo => exact fun _ _ _ => .of_eq rfl); (case hp_t_NothingToUndo => rfl); (case hv_t_NothingToUndo => rfl); (case hf_t_NothingToUndo => rfl); (case s1_t_NothingToUndo => rfl); (case s2_t_NothingToUndo => rfl); (case s3_t_NothingToUndo => rfl); (case s4_t_NothingToUndo => rfl); (case sk_t_NothingToUndo => rfl); (case sc1_t_NothingToUndo => rfl); (case sc2_t_NothingToUndo => rfl); (case sc3_t_NothingToUndo => decide); (case Z_t_NothingToUndo => exact ⟨⟨_, fun _ => rfl⟩, fun _ => rfl, fun _ => rfl, by show 1 ≤ PySem.sizeLine; rw [PySem.sizeLine_eq]; omega, by decide, by decide⟩); (case ht_t_NothingToUndo => rfl))
    (case n_NothingToUndo => k_is)
    (case a_TooMany => k_is)
    (case k_TooMany => refine' Vf.errK_mk ?l_k_TooMany ?ty_k_TooMany ?ga_k_TooMany ?gt_k_TooMany ?sb_k_TooMany ?ca_k_TooMany ?cg_k_TooMany ?ct_k_TooMany ?ob_k_TooMany; (case l_k_TooMany => k_is); (case ty_k_TooMany => k_is); (case ga_k_TooMany => k_is); (case gt_k_TooMany => k_is); (case sb_k_TooMany => k_is); (case ca_k_TooMany => k_is); (case cg_k_TooMany => k_is); (case ct_k_TooMany => k_is); (case ob_k_TooMany => k_is))
    (case t_TooMany => refine' Vf.errT_mk (F := PySem.F.excBase_OverflowError) (I := (Vf.InitB.of PySem.F.excBase_OverflowError.toExcCallFacts PySem.W.kxs_OverflowError)) (SF := PySem.F.store_OverflowError) (Y := ?Y_t_TooMany) ?l_t_TooMany ?kC_t_TooMany ?iC_t_TooMany ?fn_t_TooMany ?sb_t_TooMany ?ov_t_TooMany ?me_t_TooMany ?sa_t_TooMany ?tk_t_TooMany ?hd_t_TooMany ?tp_t_TooMany ?sup_t_TooMany ?al_t_TooMany ?lf_t_TooMany ?cd_t_TooMany ?bd_t_TooMany ?hp_t_TooMany ?lc_t_TooMany ?hv_t_TooMany ?hf_t_TooMany ?lcc_t_TooMany ?s1_t_TooMany ?s2_t_TooMany ?s3_t_TooMany ?s4_t_TooMany ?sk_t_TooMany ?sc1_t_TooMany ?sc2_t_TooMany ?sc3_t_TooMany ?Z_t_TooMany ?ht_t_TooMany; (case l_t_TooMany => k_is); (case Y_t_TooMany => exact ⟨by rfl, by rfl, by rfl⟩); (case iC_t_TooMany => k_is); (case kC_t_TooMany => k_is); (case fn_t_TooMany => k_is); (case sb_t_TooMany => k_is); (case ov_t_TooMany => kx_is); (case me_t_TooMany => k_is); (case sa_t_TooMany => k_is); (case tk_t_TooMany => k_is); (case hd_t_TooMany => k_is); (case tp_t_TooMany => k_is); (case sup_t_TooMany => exact PySem.W.mg_none_of KX G (by k_is)); (case al_t_TooMany => exact (by rfl)); (case lf_t_TooMany => k_is); (case cd_t_TooMany => k_is); (case lc_t_TooMany => k_is); (case lcc_t_TooMany => k_is); (case bd_t_TooMany => exact fun _ _ _ => .of_eq rfl); (case hp_t_TooMany => rfl); (case hv_t_TooMany => rfl); (case hf_t_TooMany => rfl); (case s1_t_TooMany => rfl); (case s2_t_TooMany => rfl); (case s3_t_TooMany => rfl); (case s4_t_TooMany => rfl); (case sk_t_TooMany => rfl); (case sc1_t_TooMany => rfl); (case sc2_t_TooMany => rfl); (case sc3_t_TooMany => decide); (case Z_t_TooMany => exact ⟨⟨_, fun _ => rfl⟩, fun _ => rfl, fun _ => rfl, by show 1 ≤ PySem.sizeLine; rw [PySem.sizeLine_eq]; omega, by decide, by decide⟩); (case ht_t_TooMany => rfl))
    (case n_TooMany => k_is)
    (case a_InvalidNumber => k_is)
    (case k_InvalidNumber => refine' Vf.errK_mk ?l_k_InvalidNumber ?ty_k_InvalidNumber ?ga_k_InvalidNumber ?gt_k_InvalidNumber ?sb_k_InvalidNumber ?ca_k_InvalidNumber ?cg_k_InvalidNumber ?ct_k_InvalidNumber ?ob_k_InvalidNumber; (case l_k_InvalidNumber => k_is); (case ty_k_InvalidNumber => k_is); (case ga_k_InvalidNumber => k_is); (case gt_k_InvalidNumber => k_is); (case sb_k_InvalidNumber => k_is); (case ca_k_InvalidNumber => k_is); (case cg_k_InvalidNumber => k_is); (case ct_k_InvalidNumber => k_is); (case ob_k_InvalidNumber => k_is))
    (case t_InvalidNumber => refine' Vf.errT_mk (F := PySem.F.excBase_RuntimeError) (I := (Vf.InitB.of PySem.F.excBase_RuntimeError.toExcCallFacts PySem.W.kxs_RuntimeError)) (SF := PySem.F.store_RuntimeError) (Y := ?Y_t_InvalidNumber) ?l_t_InvalidNumber ?kC_t_InvalidNumber ?iC_t_InvalidNumber ?fn_t_InvalidNumber ?sb_t_InvalidNumber ?ov_t_InvalidNumber ?me_t_InvalidNumber ?sa_t_InvalidNumber ?tk_t_InvalidNumber ?hd_t_InvalidNumber ?tp_t_InvalidNumber ?sup_t_InvalidNumber ?al_t_InvalidNumber ?lf_t_InvalidNumber ?cd_t_InvalidNumber ?bd_t_InvalidNumber ?hp_t_InvalidNumber ?lc_t_InvalidNumber ?hv_t_InvalidNumber ?hf_t_InvalidNumber ?lcc_t_InvalidNumber ?s1_t_InvalidNumber ?s2_t_InvalidNumber ?s3_t_InvalidNumber ?s4_t_InvalidNumber ?sk_t_InvalidNumber ?sc1_t_InvalidNumber ?sc2_t_InvalidNumber ?sc3_t_InvalidNumber ?Z_t_InvalidNumber ?ht_t_InvalidNumber; (case l_t_InvalidNumber => k_is); (case Y_t_InvalidNumber => exact ⟨by rfl, by rfl, by rfl⟩); (case iC_t_InvalidNumber => k_is); (case kC_t_InvalidNumber => k_is); (case fn_t_InvalidNumber => k_is); (case sb_t_InvalidNumber => k_is); (case ov_t_InvalidNumber => kx_is); (case me_t_InvalidNumber => k_is); (case sa_t_InvalidNumber => k_is); (case tk_t_InvalidNumber => k_is); (case hd_t_InvalidNumber => k_is); (case tp_t_InvalidNumber => k_is); (case sup_t_InvalidNumber => exact PySem.W.mg_none_of KX G (by k_is)); (case al_t_InvalidNumber => exact (by rfl)); (case lf_t_InvalidNumber => k_is); (case cd_t_InvalidNumber => k_is); (case lc_t_InvalidNumber => k_is); (case lcc_t_InvalidNumber => k_is); (case bd_t_InvalidNumber => exact fun _ _ _ => .of_eq rfl); (case hp_t_InvalidNumber => rfl); (case hv_t_InvalidNumber => rfl); (case hf_t_InvalidNumber => rfl); (case s1_t_InvalidNumber => rfl); (case s2_t_InvalidNumber => rfl); (case s3_t_InvalidNumber => rfl); (case s4_t_InvalidNumber => rfl); (case sk_t_InvalidNumber => rfl); (case sc1_t_InvalidNumber => rfl); (case sc2_t_InvalidNumber => rfl); (case sc3_t_InvalidNumber => decide); (case Z_t_InvalidNumber => exact ⟨⟨_, fun _ => rfl⟩, fun _ => rfl, fun _ => rfl, by show 1 ≤ PySem.sizeLine; rw [PySem.sizeLine_eq]; omega, by decide, by decide⟩); (case ht_t_InvalidNumber => rfl))
    (case n_InvalidNumber => k_is)
    (case nd => decide)
    (case z_ArithmeticError => k_is)
    (case z_IndexError => k_is)
    (case z_KeyError => k_is)
    (case z_LookupError => k_is)
    (case z_OverflowError => k_is)
    (case z_RuntimeError => k_is)
    (case z_ValueError => k_is)
    (case z_abs => k_is)
    (case z_int => k_is)
    (case z_isinstance => k_is)
    (case z_len => k_is)
    (case z_max => k_is)
    (case z_min => k_is)
    (case z_range => k_is)
    (case z_repr => k_is)


