import PyProof.Rows.All
import Wide.All
import OpenK.AllK
import Wide.FinOn
import HandS.ForMost
import HandS.Walk
import HandS.Wide
import HandS.IsInst
import HandS.Deep
import HandS.Evl
import KE.GoesEnum
import HandS.TupAny
import HandS.TupMul
import PySem.Challenge.RW_shelfroutes_k01_names_integers_rows_resu
set_option Elab.async false
set_option linter.all false
set_option maxRecDepth 100000
set_option maxHeartbeats 4000000
/-! Part A: promises of defs that also know that no repr is under way. -/
namespace Vf
open PySem PySem.Spec PyProof.Rows L2

/-- no repr is under way -/
def Calm (A : Around) : Prop := A.guards = some []
theorem Calm.deeper {A : Around} {env : Env} (h : Calm A) : Calm (A.deeper env) := h
theorem Calm.in1 {A : Around} (h : Calm A) : Calm A.in1 := h

/-- a def's promise, where no repr is under way -/
structure FnG (P : Program) (w : World) (K : PySem.W.Frag) (mg : Str → Option Value) (base : Heap) (CX : CXT) (k : Nat)
    (f : Addr) (fd : FuncData) (ps : List Str) (sp : Sp) : Prop where
  sz : ∀ vs H Q E, sp vs H Q E → vs.length = ps.length
  go : ∀ (A : Around) (out : List Env) (s : Shared) (H : Hp) (ar : Args) (us : List Value) (vs : List V) (Q : VK) (E : XK),
    Calm A → Room k A → Env0 P w K mg base A out s H → BindsTo s fd ar (ps.zip us) → Vals vs us → sp vs H Q E →
    codeAny (model P w) A (.call (.ref f) ar) (CR CX out P w H s Q E) s

section
variable {P : Program} {w : World} {K : PySem.W.Frag} {mg : Str → Option Value} {base : Heap} {CX : CXT}
  {j k : Nat} {f : Addr} {fd : FuncData} {ps : List Str} {sp : Sp}
theorem FnG.of (F : FnOk P w K mg base CX k f fd ps sp) : FnG P w K mg base CX k f fd ps sp :=
  ⟨F.len, fun A out s H ar us vs Q E _ r e b v h => F.run A out s H ar us vs Q E r e b v h⟩
theorem FnG.mono (F : FnG P w K mg base CX j f fd ps sp) (h : j ≤ k) : FnG P w K mg base CX k f fd ps sp :=
  ⟨F.sz, fun A out s H ar us vs Q E c r => F.go A out s H ar us vs Q E c (r.mono h)⟩
end

section
variable {X : Cx} {CX : CXT} {k : Nat} {f : Addr} {fd : FuncData} {ps : List Str} {sp : Sp} {dvs : List V} {ds : List Value} {E : XK}
  {x : Str} {p pos : Pos} {e : Expr} {es : List Expr} {t : TA}
theorem go_fn {pins : List (Addr × Obj)} {σ : L2.St} {H : Hp} {s : Shared} {Q : VK} {us : List Value} {vs : List V}
    (F : FnG X.prog X.w X.K X.mg X.base CX k f fd ps sp) (cm : Calm X.A) (hr : Room k X.A) (hb : Binds X.K fd ps ds) (hd : Vals dvs ds)
    (hx : Passes CX X E) (I : Inv X pins σ H s) (r : Vals vs us) (h : sp (vs ++ dvs) H Q E) :
    wpAny (model X.prog X.w) X.A (call (.ref f) us) (EP X pins σ Q) X.xe s := by
  have rr : Vals (vs ++ dvs) (us ++ ds) := r.append hd
  have hl : (us ++ ds).length = ps.length := rr.length.symm.trans (F.sz _ _ _ _ h)
  have g := F.go X.A X.stack s H ⟨us, []⟩ (us ++ ds) (vs ++ dvs) Q E cm hr I.env0 (hb s us I.kIn hl) rr h
  refine wpAny_call (codeAny_mono g fun z s2 q => ?_)
  match z, q with
  | .error e, q => exact hx pins σ H s e s2 I q
  | .ok (.ret u), q => exact I.after q
  | .ok .next, q => exact False.elim q
  | .ok .brk, q => exact False.elim q
  | .ok .cont, q => exact False.elim q
/-- f(e, ..) -/
theorem pe_callG (F : FnG X.prog X.w X.K X.mg X.base CX k f fd ps sp) (cm : Calm X.A) (hr : Room k X.A) (hg : Gl X x) (hm : X.mg x = some (.ref f))
    (hk : PySem.W.keepIn X.K (.ref f) = true) (hb : Binds X.K fd ps ds) (hd : Vals dvs ds) (hx : Passes CX X E) (ha : PA X (e :: es) t)
    (hdb : (x == ("__debug__" : Str)) = false := by decide)
    (he : starEach (e :: es) X.env = (false, eval e X.env) :: starEach es X.env := by rfl)
    (hpl : (backTo pos (starEach es X.env)).any (·.1) = false := by rfl) :
    PE X (.Call (.Name x p) (e :: es) [] pos) (tCall sp dvs E t) :=
  ⟨fun pins s σ H Q I h => wpAny_Call_Name_kw (ld_glob I hg hm (PySem.W.callWith_K (h₀ := X.base) I.ok.mod.kin hk
    (thn (ha.run pos pins s σ H _ I h) fun us s1 ⟨vs, H1, I1, r, q⟩ => ⟨I1.kIn, go_fn F cm hr hb hd hx I1 r q⟩) he hpl) hdb)⟩
end

/-- the rule for a def, its body walked where no repr is under way -/
theorem okG {P : Program} {w : World} {K : PySem.W.Frag} {mg : Str → Option Value} {base : Heap} {nm qual : Str} {st : Stmt} {f : Addr} {fd : FuncData}
    {N ps : List Str} {k : Nat} {sp : Sp} (F : Fun K nm qual st f fd) (S : FnScope N ps (defScope st))
    (len : ∀ vs H Q E, sp vs H Q E → vs.length = ps.length)
    (body : ∀ (cdv : Value) (A : Around) (out : List Env) (s : Shared) (H : Hp) (vs : List V) (Q : VK) (E : XK), Calm A →
      Room k (A.deeper (envOfC qual (defScope st) s.heap.objs.size f cdv)) → sp vs H Q E →
      ∃ t, PSs (cxOf CX0 P w K mg base N qual (defScope st) f cdv A out s H E).nox (defBody st) t ∧ t { nx := fun _ H2 => Q .non H2, rt := Q } (start N vs) H) :
    FnG P w K mg base CX0 (k + 1) f fd ps sp := by
  obtain ⟨oc, od, kV, doc, pm, an, cdv, ct, osl, rfl, lk, hcd⟩ := F.ex
  refine ⟨len, fun A out s H ar us vs Q E cm hr e0 hb r hsp => ?_⟩
  have hl := len _ _ _ _ hsp
  have KX : K.In s.heap := e0.mod.kin.keeps fun b o e => (e0.bs b o e).1
  have lim : s.heap.NoLimit := e0.mod.nolimit.keeps fun b o e => (e0.bs b o e).1
  have hkind : ∀ y ∈ ps.zip us, (defScope st).names.lookup y.1 = some .local ∨ ((defScope st).names.lookup y.1 = some .cell ∧
      ((cellsFrom (s.heap.objs.size + 1) (defScope st).names []).lookup y.1).isSome = true) := fun y hy =>
    (S.par y.1 (List.of_mem_zip (a := y.1) (b := y.2) hy).1).elim .inl fun q => .inr ⟨q, PySem.W.cellsFrom_some _ _ _ (.inl q)⟩
  refine codeAny_call_function hr.depth (KX _ _ lk) rfl S.co S.gen rfl (PySem.W.codeRec_of KX hcd) (hb _ _ _ _ ?_)
  refine wpAny_newFunctionEnv_cells S.kind hkind fun env he s1 x => ?_
  subst he
  obtain ⟨t, ht, hq⟩ := body cdv A out s H vs Q E cm (hr.deeper _) hsp
  have I : Inv (cxOf CX0 P w K mg base N qual (defScope st) f cdv A out s H E) [] (start N vs) H s1 := inv_start S hr.hd e0 hl r x
  refine ⟨lim.keeps x.toInCall.keep, codeAny_func (wpAny_mono (ht.nox.run [] s1 (start N vs) H _ I hq) (fun fl s2 hs => ?_) fun _ _ z => z)⟩
  have fin : ∀ {σ2 : L2.St} {H2 : Hp} {v : V} {u : Value}, Inv (cxOf CX0 P w K mg base N qual (defScope st) f cdv A out s H E) [] σ2 H2 s2 →
      RelV v u → Q v H2 → CE out P w H s Q u s2 := fun {_ H2 v _} J rv q => ⟨v, H2, J.os, J.bare, J.base, J.hok, rv, q⟩
  match fl, hs with
  | .ret u, ⟨v, σ2, H2, J, rv, q⟩ => exact fin J rv q
  | .next, ⟨σ2, H2, J, q⟩ => exact fin (v := V.non) (u := Value.none) J rfl q
  | .brk, ⟨_, _, _, q⟩ => exact False.elim q
  | .cont, ⟨_, _, _, q⟩ => exact False.elim q
end Vf

/-! Part B: the law's own head, over promises that know that no repr is under way. -/
namespace Vf
open PySem PySem.Spec PyProof.Rows L2

section
variable {P : Program} {w : World} {K : PySem.W.Frag} {mg mb : Str → Option Value} {k : Nat} {fa a : Addr} {fd : FuncData} {x : Str} {sp : Sp}
  {S : Shared} {vs : List Value} {ns : List Int}
abbrev scrObj (vs : List Value) : Obj := { cls := .type "list", data := .seq vs.toArray }
/-- what the law's call must come to -/
abbrev Ends1 (S : Shared) (r : Result) (s2 : Shared) : Prop := r = .ok (.ret (.bool true)) ∧ OldK S.heap s2.heap ∧ s2.os = S.os ∧ AllBare s2.gens
/-- from a heap in which at most the script is tracked -/
theorem law_from {H : Hp} (KX : K.In S.heap) (n1 : S.heap.Ns mainGlobals mg) (n2 : S.heap.Ns builtinsNs mb) (bb : ∀ y : Str, y ≠ "__name__" → mb y = bootBuiltins y)
    (lm : S.heap.NoLimit) (g0 : S.gens = #[]) (ha : S.heap.get? a = some (scrObj vs)) (hr : Room k callerA)
    (F : ∀ base : Heap, K.In base → base.Ns mainGlobals mg → FnG P w K mg base CX0 k fa fd [x] sp) (hbind : ∀ (s : Shared) (u : Value), BindsTo s fd ⟨[u], []⟩ [(x, u)])
    (hO : Only H) (ok : HOk P w H S.heap) (hA : ∀ b u, H b = some u → b = a ∧ K.lookup a = none)
    (h : sp [.ref a] H (fun v _ => v = .bl true) fun _ _ _ => False) :
    codeAny (model P w) callerA (.call (.ref fa) ⟨[.ref a], []⟩) (Ends1 S) S := by
  have un : ∀ {b : Addr} {o : Obj} {es : Array DictEntry} {ep : Nat}, S.heap.get? b = some o → o.data = .dict es ep → H b = none := fun {b o es ep} e d => by
    cases q : H b with
    | none => rfl
    | some u =>
      obtain ⟨rfl, _⟩ := hA b u q
      rw [ha] at e
      cases e
      exact nomatch (show Data.seq vs.toArray _ = Data.dict es ep from d)
  have nsB : ∀ {b : Addr} {m : Str → Option Value}, S.heap.Ns b m → (hidT S.heap H).Ns b m := fun {b m} ⟨o, es, ep, e, d, r⟩ =>
    ⟨o, es, ep, hidT_get e (un e d), d, r⟩
  have kB : K.In (hidT S.heap H) := fun b o e => hidT_get (KX b o e) (by
    cases q : H b with
    | none => rfl
    | some u =>
      obtain ⟨rfl, z⟩ := hA b u q
      rw [z] at e
      cases e)
  have M : Mod K mg (hidT S.heap H) := ⟨kB, nsB n1, ⟨mb, nsB n2, bb⟩, let ⟨mc, z1, z2⟩ := lm; ⟨mc, nsB z1, z2⟩⟩
  have e0 : Env0 P w K mg (hidT S.heap H) callerA [] S H :=
    ⟨rfl, M, fun b o e => of_hidT e, Nat.le_of_eq (hidT_size _ _), trivial, fun b z => (List.not_mem_nil (show b ∈ ([] : List Addr) from z)).elim, ok, .of_eq g0⟩
  refine codeAny_mono ((F _ kB (nsB n1)).go callerA [] S H ⟨[.ref a], []⟩ [.ref a] [.ref a] _ _ rfl hr e0 (hbind S (.ref a)) (.cons rfl .nil) h) fun r s2 q => ?_
  match r, q with
  | .error e, q => exact False.elim q
  | .ok .next, q => exact False.elim q
  | .ok .brk, q => exact False.elim q
  | .ok .cont, q => exact False.elim q
  | .ok (.ret u), ⟨v, H2, os, bare, U, ok2, rv, qv⟩ =>
    subst qv
    obtain rfl : u = Value.bool true := rv
    refine ⟨rfl, OldK.of_keep fun b o e => ?_, os, bare⟩
    rcases hO b with z | ⟨ob, xs, z⟩
    · exact U.keep b o e z (fun y => List.not_mem_nil (show b ∈ ([] : List Addr) from y)) (fun y => List.not_mem_nil y)
    · obtain ⟨z1, _⟩ := ok b _ z
      obtain ⟨z2, _⟩ := ok2 b _ (U.frzs b ob _ z)
      rw [e] at z1
      cases z1
      exact z2
theorem law_run (KX : K.In S.heap) (n1 : S.heap.Ns mainGlobals mg) (n2 : S.heap.Ns builtinsNs mb) (bb : ∀ y : Str, y ≠ "__name__" → mb y = bootBuiltins y)
    (lm : S.heap.NoLimit) (g0 : S.gens = #[]) (ha : S.heap.get? a = some (scrObj vs)) (hi : IntsAre vs ns) (hl : ns.length ≤ sizeLine) (hr : Room k callerA)
    (F : ∀ base : Heap, K.In base → base.Ns mainGlobals mg → FnG P w K mg base CX0 k fa fd [x] sp) (hbind : ∀ (s : Shared) (u : Value), BindsTo s fd ⟨[u], []⟩ [(x, u)])
    (hsp : ∀ H : Hp, Only H → SqL K H a (ns.map V.int) → sp [.ref a] H (fun v _ => v = .bl true) fun _ _ _ => False) :
    codeAny (model P w) callerA (.call (.ref fa) ⟨[.ref a], []⟩) (Ends1 S) S := by
  have rv := vals_ints hi
  have lV := hi.length
  cases hk : K.lookup a with
  | some o =>
    have e := KX a o hk
    rw [ha] at e
    cases e
    have o1 : Only (fun _ => none) := fun _ => .inl rfl
    refine law_from (H := fun _ => none) KX n1 n2 bb lm g0 ha hr F hbind o1 (fun b u z => nomatch (show (none : Option HO) = some u from z)) (fun b u z => nomatch (show (none : Option HO) = some u from z)) (hsp _ o1 ?_)
    exact .inr ⟨_, vs.toArray, _, hk, rfl, rfl, rfl, by rw [List.size_toArray, lV]; exact hl, by simpa using rv⟩
  | none =>
    have at1 : ∀ {b : Addr} {u : HO}, (if b = a then some (HO.frz (scrObj vs) (.lst (ns.map V.int))) else none) = some u → b = a ∧ u = .frz (scrObj vs) (.lst (ns.map V.int)) := fun {b u} z => by
      by_cases hb : b = a
      · rw [if_pos hb] at z
        exact ⟨hb, (Option.some.inj z).symm⟩
      · rw [if_neg hb] at z
        cases z
    have o1 : Only (fun b => if b = a then some (.frz (scrObj vs) (.lst (ns.map V.int))) else none) := fun b => by
      by_cases hb : b = a
      · exact .inr ⟨_, _, if_pos hb⟩
      · exact .inl (if_neg hb)
    refine law_from (H := fun b => if b = a then some (.frz (scrObj vs) (.lst (ns.map V.int))) else none) KX n1 n2 bb lm g0 ha hr F hbind o1 (fun b u z => ?_) (fun b u z => ⟨(at1 z).1, hk⟩) (hsp _ o1 (.inl (.inr ⟨scrObj vs, if_pos rfl⟩)))
    obtain ⟨rfl, rfl⟩ := at1 z
    exact ⟨ha, by rw [List.length_map]; exact hl, vs, _, rv, ha⟩
end

/-- the goal that the head leaves -/
theorem walkG {l : PySem.W.OpenLaw} {n k : Nat} {q : Program} {loose : List Str} {XP : (Str → Option Value) → Heap → Prop} {YP : World → Heap → Prop} {d : DefRec}
    {K : Params → PySem.W.Frag} {sp : PySem.W.Frag → Sp} {x : Str} (hn : l.most = some n) (hn2 : n ≤ sizeLine) (hdf : d.params.defaults = []) (hr : Room k callerA)
    (hY : ∀ (w : World) (h : Heap), YP w h → (K w.params).In h)
    (F : ∀ (w : World) (mg : Str → Option Value) (fa : Addr) (h : Heap), (K w.params).In h → h.Ns mainGlobals mg → mg d.name = some (.ref fa) →
      ∃ fd : FuncData, (∀ (s : Shared) (u : Value), BindsTo s fd ⟨[u], []⟩ [(x, u)]) ∧
        ∀ base : Heap, (K w.params).In base → base.Ns mainGlobals mg → FnG l.prog w (K w.params) mg base CX0 k fa fd [x] (sp (K w.params)))
    (hsp : ∀ (K : PySem.W.Frag) (H : Hp) (a : Addr) (ns : List Int), ns.length ≤ n → Only H → SqL K H a (ns.map V.int) → sp K [.ref a] H (fun v _ => v = .bl true) fun _ _ _ => False) :
    PySem.W.WalkO q loose XP YP l.row.toRowW d [] (fun f vs => PySem.call f vs) := by
  refine Att.attach_call hn hdf fun w s0 s1 mg mb fa o pm cd doc a vs ns G Y ho hd hcd hmg hobj hints hlen hg => ?_
  obtain ⟨fd, hb, hF⟩ := F w mg fa _ (hY w _ Y) G.T.g hmg
  exact law_run (hY w _ Y) G.T.g G.T.b G.T.builtins G.T.nolimit hg hobj hints (Nat.le_trans hlen hn2) hr hF hb fun H hO hS => hsp _ H a ns hlen hO hS
end Vf

/-! Part C: data in the heap; repr, isinstance, == [], wide powers. -/
namespace Vf
open PySem PySem.Spec PyProof.Rows L2

/-! ### data -/
def keyD : Key → PyData
  | .inl i => .int i
  | .inr x => .str x
mutual
/-- the value v is the data d in the heap H -/
inductive Dq (H : Hp) : V → PyData → Prop
  | non : Dq H .non .none
  | bl (b : Bool) : Dq H (.bl b) (.bool b)
  | int (i : Int) : Dq H (.int i) (.int i)
  | str (x : Str) : Dq H (.str x) (.str x)
  | lst {a : Addr} {xs : List V} {ds : List PyData} : H a = some (.lst xs) → DqAll H xs ds → Dq H (.ref a) (.list ds)
  | tup {a : Addr} {xs : List V} {ds : List PyData} : H a = some (.tup xs) → DqAll H xs ds → Dq H (.ref a) (.tuple ds)
  | dct {a : Addr} {kvs : List (Key × V)} {ds : List (PyData × PyData)} : H a = some (.dK kvs) → ds.map (·.1) = kvs.map (fun kv => keyD kv.1) →
      DqAll H (kvs.map (·.2)) (ds.map (·.2)) → Dq H (.ref a) (.dict ds)
inductive DqAll (H : Hp) : List V → List PyData → Prop
  | nil : DqAll H [] []
  | cons {v : V} {vs : List V} {d : PyData} {ds : List PyData} : Dq H v d → DqAll H vs ds → DqAll H (v :: vs) (d :: ds)
end
mutual
/-- no list in it -/
def noList : PyData → Bool
  | .list _ => false
  | .tuple xs => noListA xs
  | .dict kvs => noListK kvs
  | _ => true
def noListA : List PyData → Bool
  | [] => true
  | x :: xs => noList x && noListA xs
def noListK : List (PyData × PyData) → Bool
  | [] => true
  | kv :: r => noList kv.1 && noList kv.2 && noListK r
end
abbrev Ext (H H' : Hp) : Prop := ∀ b o, H b = some o → H' b = some o
mutual
theorem Dq.ext {H H' : Hp} (e : Ext H H') : ∀ {v : V} {d : PyData}, Dq H v d → Dq H' v d
  | _, _, .non => .non
  | _, _, .bl b => .bl b
  | _, _, .int i => .int i
  | _, _, .str x => .str x
  | _, _, .lst h r => .lst (e _ _ h) (r.ext e)
  | _, _, .tup h r => .tup (e _ _ h) (r.ext e)
  | _, _, .dct h k r => .dct (e _ _ h) k (r.ext e)
theorem DqAll.ext {H H' : Hp} (e : Ext H H') : ∀ {vs : List V} {ds : List PyData}, DqAll H vs ds → DqAll H' vs ds
  | _, _, .nil => .nil
  | _, _, .cons h r => .cons (h.ext e) (r.ext e)
end
theorem DqAll.len {H : Hp} : ∀ {vs : List V} {ds : List PyData}, DqAll H vs ds → vs.length = ds.length
  | _, _, .nil => rfl
  | _, _, .cons _ r => congrArg (· + 1) r.len
theorem DqAll.at {H : Hp} : ∀ {vs : List V} {ds : List PyData} {i : Nat} {v : V}, DqAll H vs ds → vs[i]? = some v → ∃ d, ds[i]? = some d ∧ Dq H v d
  | _, _, _, _, .nil, e => by cases e
  | _, _, 0, v, .cons h _, e => ⟨_, rfl, by cases e; exact h⟩
  | _, _, i + 1, v, .cons _ r, e => r.at (i := i) e
theorem DqAll.app {H : Hp} : ∀ {vs ws : List V} {ds es : List PyData}, DqAll H vs ds → DqAll H ws es → DqAll H (vs ++ ws) (ds ++ es)
  | _, _, _, _, .nil, s => s
  | _, _, _, _, .cons h r, s => .cons h (r.app s)
theorem DqAll.take {H : Hp} : ∀ {vs : List V} {ds : List PyData} (n : Nat), DqAll H vs ds → DqAll H (vs.take n) (ds.take n)
  | _, _, 0, _ => .nil
  | _, _, _ + 1, .nil => .nil
  | _, _, n + 1, .cons h r => .cons h (r.take n)
theorem DqAll.drop {H : Hp} : ∀ {vs : List V} {ds : List PyData} (n : Nat), DqAll H vs ds → DqAll H (vs.drop n) (ds.drop n)
  | _, _, 0, r => r
  | _, _, _ + 1, .nil => .nil
  | _, _, n + 1, .cons _ r => r.drop n
theorem DqAll.ints {H : Hp} : ∀ ns : List Int, DqAll H (ns.map V.int) (ns.map PyData.int)
  | [] => .nil
  | n :: r => .cons (.int n) (DqAll.ints r)
theorem DqAll.bools {H : Hp} : ∀ bs : List Bool, DqAll H (bs.map V.bl) (bs.map PyData.bool)
  | [] => .nil
  | b :: r => .cons (.bl b) (DqAll.bools r)

section
variable {X : Cx} {pins : List (Addr × Obj)} {σ : L2.St} {H : Hp} {s : Shared}
theorem pairs_keys {P : Program} {w : World} {H : Hp} {h : Heap} : ∀ {es : List DictEntry} {kvs : List (Key × Value)} , Pairs (mixKind P w) es kvs →
    ∀ {ds : List PyData}, ds = kvs.map (fun kv => keyD kv.1) → ∃ as, ReadsAll h (es.map (·.key)) ds as ∧ as = []
  | _, _, .nil, _, rfl => ⟨_, ReadsAll.nil, rfl⟩
  | _, _, .cons (e := e) (kv := kv) h1 _ r, _, rfl => by
    obtain ⟨as, q, rfl⟩ := pairs_keys (H := H) r rfl
    have h2 : keyIs kv.1 e.key = true := h1
    rcases keyIs_shape h2 with ⟨i, t, e1, e2⟩ | ⟨x, t, e1, e2⟩
    · refine ⟨[] ++ [], ReadsAll.cons ?_ q, rfl⟩
      show Reads h e.key (keyD kv.1) []
      rw [e1, e2]
      exact Reads.int i t
    · refine ⟨[] ++ [], ReadsAll.cons ?_ q, rfl⟩
      show Reads h e.key (keyD kv.1) []
      rw [e1, e2]
      exact Reads.str x t
theorem pairs_vals {P : Program} {w : World} : ∀ {es : List DictEntry} {kvs : List (Key × Value)} , Pairs (mixKind P w) es kvs → es.map (·.val) = kvs.map (·.2)
  | _, _, .nil => rfl
  | _, _, .cons _ h2 r => by rw [List.map_cons, List.map_cons, h2, pairs_vals r]
theorem kv_vals : ∀ {ks : List (Key × V)} {us : List (Key × Value)}, KV ks us → Vals (ks.map (·.2)) (us.map (·.2))
  | _, _, .nil => .nil
  | _, _, .cons h r => .cons h.2 (kv_vals r)
theorem kv_keys : ∀ {ks : List (Key × V)} {us : List (Key × Value)}, KV ks us → ks.map (fun kv => keyD kv.1) = us.map (fun kv => keyD kv.1)
  | _, _, .nil => rfl
  | _, _, .cons h r => by rw [List.map_cons, List.map_cons, h.1, kv_keys r]
mutual
/-- such data are read off the heap; where no list is in them all that is noted is a dict, not the modules' one -/
theorem Dq.rd (I : Inv X pins σ H s) : ∀ {v : V} {d : PyData} {u : Value}, Dq H v d → RelV v u → ∃ as, Reads s.heap u d as ∧ (noList d = true → sysModules ∉ as)
  | _, _, _, .non, r => by cases r; exact ⟨_, Reads.none, fun _ z => nomatch z⟩
  | _, _, _, .bl b, r => by cases r; exact ⟨_, Reads.bool b, fun _ z => nomatch z⟩
  | _, _, _, .int i, r => by obtain ⟨t, rfl⟩ := r; exact ⟨_, Reads.int i t, fun _ z => nomatch z⟩
  | _, _, _, .str x, r => by obtain ⟨t, rfl⟩ := r; exact ⟨_, Reads.str x t, fun _ z => nomatch z⟩
  | _, _, _, .lst h q, r => by
    cases r
    obtain ⟨its, rv, ⟨o, n, ho, hc, _, hd⟩, _⟩ := I.list (SqL.of h)
    obtain ⟨as, hr, _⟩ := DqAll.rd I q rv
    exact ⟨_, Reads.list ho hc hd hr, fun z => by simp [noList] at z⟩
  | _, _, _, .tup h q, r => by
    cases r
    obtain ⟨its, rv, ⟨o, ho, hc, n, hd⟩, _⟩ := I.tuple (SqT.of h)
    obtain ⟨as, hr, na⟩ := DqAll.rd I q rv
    exact ⟨_, Reads.tuple ho hc hd hr, fun z => na (by simpa [noList] using z)⟩
  | _, .dict ds, _, .dct (a := a) (kvs := kvs) h k q, r => by
    cases r
    obtain ⟨_, ns, vs, rkv, o, es, ep, ho, ex, hd, _, pr, _⟩ := (show ObjOk X.prog X.w H s.heap a (.dK kvs) from I.hok a _ h)
    obtain ⟨as, h1, rfl⟩ := pairs_keys (H := H) (h := s.heap) pr (ds := ds.map (·.1)) (k.trans (kv_keys rkv))
    obtain ⟨bs, h2, nb⟩ := DqAll.rd I q (kv_vals rkv)
    refine ⟨_, Reads.dict ho ex.1 hd h1 (by rw [pairs_vals pr]; exact h2), fun z hm => ?_⟩
    rcases List.mem_append.mp hm with hm | hm
    · rcases List.mem_cons.mp hm with e | e
      · rw [← e] at ns
        exact absurd ns (by decide)
      · cases e
    · refine nb ?_ hm
      have all : ∀ (l : List (PyData × PyData)), noListK l = true → noListA (l.map (·.2)) = true := by
        intro l
        induction l with
        | nil => intro _; rfl
        | cons p r ih =>
          intro z
          simp only [noListK, Bool.and_eq_true] at z
          simp only [List.map_cons, noListA, Bool.and_eq_true]
          exact ⟨z.1.2, ih z.2⟩
      exact all ds (by simpa [noList] using z)
theorem DqAll.rd (I : Inv X pins σ H s) : ∀ {vs : List V} {ds : List PyData} {us : List Value}, DqAll H vs ds → Vals vs us → ∃ as, ReadsAll s.heap us ds as ∧ (noListA ds = true → sysModules ∉ as)
  | _, _, _, .nil, r => by cases r; exact ⟨_, ReadsAll.nil, fun _ z => nomatch z⟩
  | _, _, _, .cons h q, r => by
    cases r with
    | cons r1 r2 =>
      obtain ⟨as, q1, n1⟩ := Dq.rd I h r1
      obtain ⟨bs, q2, n2⟩ := DqAll.rd I q r2
      refine ⟨_, ReadsAll.cons q1 q2, fun z hm => ?_⟩
      simp only [noListA, Bool.and_eq_true] at z
      rcases List.mem_append.mp hm with hm | hm
      · exact n1 z.1 hm
      · exact n2 z.2 hm
end
end

/-! ### repr -/
/-- what repr needs of data -/
structure Tells (d : PyData) : Prop where
  sh : d.showable = true
  nd : d.hasDict = true → noList d = true
  dp : d.depth ≤ 60
  sz : d.shown.length ≤ sizeLine
def rRepr : List V → Hp → VK → Prop := fun xs H Q => ∃ x d, xs = [x] ∧ Dq H x d ∧ Tells d ∧ Q (.str d.shown) H
theorem call_repr {X : Cx} (cm : Calm X.A) (hu : X.A.units + 64 < cLine) : CallR X (.builtin "repr") rRepr := by
  intro pins s σ H xs us Q I r h
  obtain ⟨x, d, rfl, hd, T, q⟩ := h
  obtain ⟨u, rfl, rx⟩ := vals1 r
  have main : ∀ a : Addr, x = .ref a → wpAny (model X.prog X.w) X.A (call (.builtin "repr") [u]) (EP X pins σ Q) X.xe s := by
    rintro a rfl
    obtain ⟨as, rd, na⟩ := Dq.rd I hd rx
    cases (show u = Value.ref a from rx)
    have dp := T.dp
    exact repr_of_reads' rd T.sh (fun z => na (T.nd z)) cm (by omega) (fun _ _ e => e) (fun h' v tk k => ⟨.str d.shown, H, I.kept k, ⟨_, rfl⟩, q⟩) T.sz
  cases hd with
  | non => cases rx; exact P.repr_of_none ⟨.str _, H, I.tok _, ⟨_, rfl⟩, q⟩
  | bl b =>
    cases rx
    refine P.repr_of_bool ⟨.str _, H, I.tok _, ⟨_, rfl⟩, ?_⟩
    rw [PyData.shown_bool] at q
    cases b <;> exact q
  | int i =>
    obtain ⟨t, rfl⟩ := rx
    have hz : i.natAbs.log2 < 1920 := by simpa [PyData.showable] using T.sh
    exact P.repr_of_int hz ⟨.str _, H, I.tok _, ⟨_, rfl⟩, q⟩
  | str y =>
    obtain ⟨t, rfl⟩ := rx
    exact P.repr_of_str (hsz := T.sz) ⟨.str _, H, I.tok _, ⟨_, rfl⟩, q⟩
  | lst h1 h2 => exact main _ rfl
  | tup h1 h2 => exact main _ rfl
  | dct h1 h2 h3 => exact main _ rfl

/-! ### isinstance -/
def tyN : PyData → String
  | .none => "NoneType"
  | .bool _ => "bool"
  | .int _ => "int"
  | .str _ => "str"
  | .list _ => "list"
  | .tuple _ => "tuple"
  | .dict _ => "dict"
theorem Dq.ty {K : PySem.W.Frag} {H : Hp} {v : V} {d : PyData} (h : Dq H v d) : TyX K H v (.type (tyN d)) := by
  cases h with
  | non => exact .base .non
  | bl b => exact .base (.bl b)
  | int i => exact .base (.int i)
  | str x => exact .base (.str x)
  | lst h _ => exact .base (.lst h)
  | tup h _ => exact .base (.tup h)
  | dct h _ _ => exact .base (.dK h)
def isInt : PyData → Bool
  | .int _ => true
  | .bool _ => true
  | _ => false
def isBool : PyData → Bool
  | .bool _ => true
  | _ => false
def isStr : PyData → Bool
  | .str _ => true
  | _ => false
def isTup : PyData → Bool
  | .tuple _ => true
  | _ => false
def isLst : PyData → Bool
  | .list _ => true
  | _ => false
def isDct : PyData → Bool
  | .dict _ => true
  | _ => false
theorem kb_all (n : String) (f : PyData → Bool) (h0 : kitB "NoneType" n = some (f .none)) (h1 : ∀ b, kitB "bool" n = some (f (.bool b))) (h2 : ∀ i, kitB "int" n = some (f (.int i)))
    (h3 : ∀ x, kitB "str" n = some (f (.str x))) (h4 : ∀ x, kitB "list" n = some (f (.list x))) (h5 : ∀ x, kitB "tuple" n = some (f (.tuple x))) (h6 : ∀ x, kitB "dict" n = some (f (.dict x))) :
    ∀ d : PyData, kitB (tyN d) n = some (f d)
  | .none => h0
  | .bool b => h1 b
  | .int i => h2 i
  | .str x => h3 x
  | .list x => h4 x
  | .tuple x => h5 x
  | .dict x => h6 x
theorem kb_int : ∀ d : PyData, kitB (tyN d) "int" = some (isInt d) := kb_all "int" isInt (show kitB "NoneType" "int" = some false by decide +kernel) (fun _ => (show kitB "bool" "int" = some true by decide +kernel)) (fun _ => (show kitB "int" "int" = some true by decide +kernel)) (fun _ => (show kitB "str" "int" = some false by decide +kernel)) (fun _ => (show kitB "list" "int" = some false by decide +kernel)) (fun _ => (show kitB "tuple" "int" = some false by decide +kernel)) (fun _ => (show kitB "dict" "int" = some false by decide +kernel))
theorem kb_bool : ∀ d : PyData, kitB (tyN d) "bool" = some (isBool d) := kb_all "bool" isBool (show kitB "NoneType" "bool" = some false by decide +kernel) (fun _ => (show kitB "bool" "bool" = some true by decide +kernel)) (fun _ => (show kitB "int" "bool" = some false by decide +kernel)) (fun _ => (show kitB "str" "bool" = some false by decide +kernel)) (fun _ => (show kitB "list" "bool" = some false by decide +kernel)) (fun _ => (show kitB "tuple" "bool" = some false by decide +kernel)) (fun _ => (show kitB "dict" "bool" = some false by decide +kernel))
theorem kb_str : ∀ d : PyData, kitB (tyN d) "str" = some (isStr d) := kb_all "str" isStr (show kitB "NoneType" "str" = some false by decide +kernel) (fun _ => (show kitB "bool" "str" = some false by decide +kernel)) (fun _ => (show kitB "int" "str" = some false by decide +kernel)) (fun _ => (show kitB "str" "str" = some true by decide +kernel)) (fun _ => (show kitB "list" "str" = some false by decide +kernel)) (fun _ => (show kitB "tuple" "str" = some false by decide +kernel)) (fun _ => (show kitB "dict" "str" = some false by decide +kernel))
theorem kb_tuple : ∀ d : PyData, kitB (tyN d) "tuple" = some (isTup d) := kb_all "tuple" isTup (show kitB "NoneType" "tuple" = some false by decide +kernel) (fun _ => (show kitB "bool" "tuple" = some false by decide +kernel)) (fun _ => (show kitB "int" "tuple" = some false by decide +kernel)) (fun _ => (show kitB "str" "tuple" = some false by decide +kernel)) (fun _ => (show kitB "list" "tuple" = some false by decide +kernel)) (fun _ => (show kitB "tuple" "tuple" = some true by decide +kernel)) (fun _ => (show kitB "dict" "tuple" = some false by decide +kernel))
theorem kb_list : ∀ d : PyData, kitB (tyN d) "list" = some (isLst d) := kb_all "list" isLst (show kitB "NoneType" "list" = some false by decide +kernel) (fun _ => (show kitB "bool" "list" = some false by decide +kernel)) (fun _ => (show kitB "int" "list" = some false by decide +kernel)) (fun _ => (show kitB "str" "list" = some false by decide +kernel)) (fun _ => (show kitB "list" "list" = some true by decide +kernel)) (fun _ => (show kitB "tuple" "list" = some false by decide +kernel)) (fun _ => (show kitB "dict" "list" = some false by decide +kernel))
theorem kb_dict : ∀ d : PyData, kitB (tyN d) "dict" = some (isDct d) := kb_all "dict" isDct (show kitB "NoneType" "dict" = some false by decide +kernel) (fun _ => (show kitB "bool" "dict" = some false by decide +kernel)) (fun _ => (show kitB "int" "dict" = some false by decide +kernel)) (fun _ => (show kitB "str" "dict" = some false by decide +kernel)) (fun _ => (show kitB "list" "dict" = some false by decide +kernel)) (fun _ => (show kitB "tuple" "dict" = some false by decide +kernel)) (fun _ => (show kitB "dict" "dict" = some true by decide +kernel))
theorem isi_gen {K : PySem.W.Frag} {H : Hp} {Q : VK} {v : V} {d : PyData} {n : String} {b : Bool} (h : Dq H v d) (e : kitB (tyN d) n = some b) (q : Q (.bl b) H) : rIsi K [v, .ty n] H Q :=
  ⟨v, .ty n, .type (tyN d), .type n, b, rfl, .ty n, h.ty, kit_ty e, q⟩
theorem isi_int {K : PySem.W.Frag} {H : Hp} {Q : VK} {v : V} {d : PyData} (h : Dq H v d) (q : Q (.bl (isInt d)) H) : rIsi K [v, .ty "int"] H Q :=
  isi_gen h (kb_int d) q
theorem isi_bool {K : PySem.W.Frag} {H : Hp} {Q : VK} {v : V} {d : PyData} (h : Dq H v d) (q : Q (.bl (isBool d)) H) : rIsi K [v, .ty "bool"] H Q :=
  isi_gen h (kb_bool d) q
theorem isi_str {K : PySem.W.Frag} {H : Hp} {Q : VK} {v : V} {d : PyData} (h : Dq H v d) (q : Q (.bl (isStr d)) H) : rIsi K [v, .ty "str"] H Q :=
  isi_gen h (kb_str d) q
theorem isi_tup {K : PySem.W.Frag} {H : Hp} {Q : VK} {v : V} {d : PyData} (h : Dq H v d) (q : Q (.bl (isTup d)) H) : rIsi K [v, .ty "tuple"] H Q :=
  isi_gen h (kb_tuple d) q

/-! ### a list against an empty one -/
def rEqE (K : PySem.W.Frag) : R2 := fun x y H Q => ∃ a b xs, x = .ref a ∧ y = .ref b ∧ SqL K H a xs ∧ SqL K H b [] ∧ Q (.bl xs.isEmpty) H
theorem op_eqE {X : Cx} (hu : X.A.units < cLine) : OpR X (compareOp .Eq) (rEqE X.K) := by
  intro pins s σ H x y v u Q I rx ry h
  obtain ⟨a, b, xs, rfl, rfl, ha, hb, q⟩ := h
  cases rx
  cases ry
  obtain ⟨us, r1, p1, _⟩ := I.list ha
  obtain ⟨ws, r2, p2, _⟩ := I.list hb
  cases r2
  cases r1 with
  | nil => exact SeqAt.eq_listAt (e := fun _ => true) p1.isList p2.isList rfl hu (fun j h1 _ => absurd h1 (Nat.not_lt_zero _)) ⟨.bl _, H, I, rfl, q⟩
  | cons _ _ => exact SeqAt.eq_list_lengthsAt p1.isList p2.isList rfl hu ⟨.bl _, H, I, rfl, q⟩

/-! ### great powers -/
def CPowW (i j : Int) : Prop := 0 ≤ j ∧ (Builtin.Int.intBits i : Int) * j ≤ 2 ^ 27
theorem op_powW {X : Cx} : OpR X (binaryOp .Pow) (rI CPowW fun i j => .int (i ^ j.toNat)) := opI fun _ _ _ _ _ _ _ hc q => pow_int hc.1 hc.2 q
end Vf

/-! Part E: for i, x in enumerate(t), t a tuple. -/
namespace Vf
open PySem PySem.Spec PyProof.Rows L2

theorem meets_enum1 {v : Value} {o : Obj} {H : Heap → Prop} (B : Begins v o H) :
    Meets (Builtin.«enumerate.__new__» ⟨[.type "enumerate", v], []⟩) (fun _ R s => H s.heap ∧
      R (.ok (.ret (.ref (s.heap.push o).objs.size)))
        { s with heap := (s.heap.push o).push { cls := .type "enumerate", data := .fields #[.none, .bool false, .ref s.heap.objs.size, rawInt 0, .none, .none] } }) :=
  .of_wp fun prog w A R s h => by
    obtain ⟨hp, g, d, tk, os⟩ := s
    obtain ⟨h1, h⟩ := h
    have sb := sub_enumerate
    have q1 : ∀ {A' : Around} {E : Value → Shared → Prop} {Q : Value → Shared → Prop}, Q (.ref hp.objs.size) ⟨(hp.push o), g, d, tk, os⟩ → wpAny (model prog w) A' (pyIter v) Q E ⟨hp, g, d, tk, os⟩ :=
      fun q => B.iter prog w _ _ ⟨hp, g, d, tk, os⟩ _ (B.keeps _ _ h1 fun b o' e => e) q
    wp_walk
    refine wpAny_stack_any fun st => wpAny_pure ?_
    split
    · rename_i c _ _ _ _ _
      cases (c == Value.type "enumerate")
      all_goals
        wp_walk using q1
        exact ⟨_, rfl, h⟩
    · wp_walk using q1
      exact ⟨_, rfl, h⟩

theorem enum1 {prog : Program} {w : World} {A : Around} {E : Value → Shared → Prop} {s : Shared} {v : Value} {o : Obj} {H : Heap → Prop} {Q : Value → Shared → Prop} (B : Begins v o H) (h1 : H s.heap)
    (h : ∀ h', IsEnum h' (s.heap.objs.size + 1) s.heap.objs.size 0 .none → h'.get? s.heap.objs.size = some o →
      (∀ b o, s.heap.get? b = some o → h'.get? b = some o) → Q (.ref (s.heap.objs.size + 1)) { s with heap := h' }) :
    wpAny (model prog w) A (call (.type "enumerate") [v]) Q E s := by
  refine callType_new F.called_enumerate (by decide) (F.typeCall_enumerate_1 _) (F.newCall_enumerate_1 _) (fun obj => F.args_object_init_2 obj _) F.entry_enumerate_new
    (meets_enum1 B) ⟨h1, ?_⟩
  have hz : (s.heap.push o).objs.size = s.heap.objs.size + 1 := Heap.size_push ..
  show _ ∧ _
  have he := Heap.get?_push_size (s.heap.push o) (o := { cls := .type "enumerate", data := .fields #[.none, .bool false, .ref s.heap.objs.size, rawInt 0, .none, .none] }) rfl
  rw [hz] at he ⊢
  exact ⟨⟨_, he, rfl⟩, h _ he (Heap.get?_push_of_some _ (Heap.get?_push_size _ B.free)) fun b o x => Heap.get?_push_of_some _ (Heap.get?_push_of_some _ x)⟩

/-- the tuple at a, its items in new pairs with their places -/
def IteT (K : PySem.W.Frag) (a : Addr) : It where
  go := fun i H => ∃ (xs : List V) (x : V), SqT K H a xs ∧ xs[i]? = some x
  yld := fun i H v H' => ∃ T x, v = .ref T ∧ H T = none ∧ H' = upd H T (.tup [.int (i : Nat), x]) ∧ ∀ xs, SqT K H a xs → xs[i]? = some x
  stop := fun i H => ∃ xs : List V, SqT K H a xs ∧ xs.length ≤ i
theorem turn_enumT {P : Program} {w : World} {K : PySem.W.Frag} {elts : List Expr} {kk : Nat} {tpos : Pos} (a e it : Addr) :
    Turn P w K (.Tuple elts kk tpos) (IteT K a) [e, it] e (fun i h => (∃ old, IsEnum h e it ((i : Nat) : Int) old) ∧ h.IsTupleIter it a i ∧ e ≠ it ∧ a ≠ e ∧ a ≠ it) where
  mem := List.mem_cons_self
  obj := fun i h st b hb => by
    obtain ⟨⟨old, he⟩, ⟨o, ho, hc, hd⟩, _⟩ := st
    rcases List.mem_cons.mp hb with z | z
    · rw [z]
      exact ⟨_, he, fun v q => nomatch q⟩
    · rw [List.mem_singleton.mp z]
      exact ⟨o, ho, fun v q => by rw [hd] at q; cases q⟩
  keep := fun i h h' st k => by
    obtain ⟨⟨old, he⟩, hi, n1, n2, n3⟩ := st
    exact ⟨⟨old, k e List.mem_cons_self _ he⟩, hi.at fun o q => k it (List.mem_cons_of_mem _ List.mem_cons_self) o q, n1, n2, n3⟩
  item := by
    intro X hP hw hK hc i pins s σ H E I hf st hg
    subst hP hw hK
    obtain ⟨⟨old, he⟩, hit, hne, nae, nai⟩ := st
    obtain ⟨xs, x, hq, hx⟩ := hg
    obtain ⟨its, rv, p, hz⟩ := I.tuple hq
    obtain ⟨u, hu, ru⟩ := rv.get hx
    have hel : e < s.heap.objs.size := Heap.lt_size he
    have hil : it < s.heap.objs.size := by obtain ⟨_, q, _⟩ := hit; exact Heap.lt_size q
    have ilt : i < its.toArray.size := by
      have q := (List.getElem?_eq_some_iff.mp hu).1
      simpa using q
    have hh : X.A.in1.handled = none := I.ok.hd hc
    refine wpAny_pyNext_enum_itemD (Draws.tuple hh it a nai its.toArray) he ⟨hit, (show s.heap.IsTuple a its.toArray from p)⟩ ilt hne (fun z => ?_) fun y h' tk hy ho hst hT hsz hk => ?_
    · rcases List.mem_cons.mp z with z | z
      · exact hne z
      · exact nae (List.mem_singleton.mp z).symm
    have ey : y = u := by
      have q : its.toArray[i]? = some u := by simpa using hu
      exact Option.some.inj (hy.symm.trans q)
    subst ey
    refine ⟨_, rfl, wpAny_letOwnedTupleGo_enum (s := { s with heap := h', toks := tk + 1 }) ho fun h2 he2 sb => ?_⟩
    have hT2 : h2.get? s.heap.objs.size = some { cls := .type "tuple", data := .seq #[.int i tk, y] } := (sb.2 _ (Nat.ne_of_gt hel)).trans hT
    have new : ObjOk X.prog X.w (upd H s.heap.objs.size (.tup [.int (i : Nat), x])) h2 s.heap.objs.size (.tup [.int (i : Nat), x]) :=
      ⟨by show 2 ≤ sizeLine; decide, [.int i tk, y], .cons ⟨_, rfl⟩ (.cons ru .nil), ⟨_, hT2, rfl, _, rfl⟩⟩
    have I1 : Inv X pins σ (upd H s.heap.objs.size (.tup [.int (i : Nat), x])) { s with heap := h2, toks := tk + 1 } :=
      I.turnedNew (ch := [e, it]) (fun b ob hb q => (sb.2 b (fun z => hb (by simp [z]))).trans (hk b ob (fun z => hb (by simp [z])) (fun z => hb (by simp [z])) q)) hf (Nat.le_refl _) new
    refine ⟨.ref s.heap.objs.size, _, I1, rfl, ⟨_, x, rfl, I.hok.fresh (Nat.le_refl _), rfl, fun ys hy => by rw [I.tuple_inj hy hq]; exact hx⟩, ⟨⟨y, ?_⟩, hst.1.at fun o q => (sb.2 it (Ne.symm hne)).trans q, hne, nae, nai⟩, fun b hb => ?_⟩
    · rw [show ((i + 1 : Nat) : Int) = (i : Int) + 1 by omega]
      exact he2
    · have lt : b < s.heap.objs.size := by
        rcases List.mem_cons.mp hb with z | z
        · rw [z]; exact hel
        · rw [List.mem_singleton.mp z]; exact hil
      rw [upd_ne (Nat.ne_of_lt lt)]
      exact (hf b hb).1
  done := by
    intro X hP hw hK hc i pins s σ H E I hf st hg
    subst hP hw hK
    obtain ⟨⟨old, he⟩, hit, hne, nae, nai⟩ := st
    obtain ⟨xs, hq, hx⟩ := hg
    obtain ⟨its, rv, p, hz⟩ := I.tuple hq
    obtain ⟨f0, f1, f2, f3, f4, f5⟩ := hf it (List.mem_cons_of_mem _ List.mem_cons_self)
    have hl := rv.length
    have hT : s.TypeIs (.ref e) "enumerate" := ⟨_, he, rfl⟩
    have hh : X.A.in1.handled = none := I.ok.hd hc
    have en : its.toArray[i]? = none := by
      have q : its[i]? = none := List.getElem?_eq_none (by omega)
      simpa using q
    unfold pyNext
    refine wpAny_bind (wpAny_attempt (wpAny_callSpecial?_slot (name := Str.ofString "__next__") hT F.slot_enumerate_next
      (wpAny_call_entry F.slot_enumerate_next hT F.entry_enumerate_next ?_ (F.args_enumerate_next_1 _))))
    show wpAny _ _ (field (.ref e) 2 >>= _) _ _ _
    refine wpAny_bind (wpAny_field he rfl (x := .ref it) rfl ?_)
    refine wpAny_bind (wpAny_nextOf_tuple_end hh hit (show s.heap.IsTuple a its.toArray from p) en fun h' z eb hz' => ?_)
    obtain ⟨o, ho, hc'⟩ := hz'
    refine wpAny_bind (wpAny_isInstance (T := "StopIteration") (b := true) ⟨o, ho, hc'⟩ isSubtype_stop ?_)
    exact wpAny_pure ⟨rfl, I.turned (t' := s.toks) (fun b o hb q => eb b o hb q) f0 f1 f3 f4 f5⟩
  self := fun A i s Q E st h => let ⟨⟨_, he⟩, _⟩ := st; wpAny_pyIter_enum he h
def iEnumT (K : PySem.W.Frag) (ta : TA) : TI := fun σ H R => ta σ H fun vs H1 => ∃ a xs, vs = [.ref a] ∧ SqT K H1 a xs ∧ R (IteT K a) H1
theorem pi_enumT {X : Cx} {e : Expr} {ta : TA} {p pos tpos : Pos} {elts : List Expr} {kk : Nat} (hg : Gl X "enumerate") (hm : X.mg "enumerate" = none) (ha : PA X [e] ta)
    (hs : starEach [e] X.env = [(false, eval e X.env)] := by rfl) : PI X (.Tuple elts kk tpos) (.Call (.Name "enumerate" p) [e] [] pos) (iEnumT X.K ta) := by
  constructor
  intro pins s σ H R I h
  refine Call_ (ld_blt I hg hm boot_enumerate (PyProof.Rows.callWith_type1 (thn (ha.run pos pins s σ H _ I h) fun us s1 ⟨vs, H1, I1, r1, q1⟩ => ?_) hs rfl))
  obtain ⟨a, xs, ex, hq, q⟩ := q1
  subst ex
  cases r1 with
  | cons r rr =>
    cases rr
    cases r
    obtain ⟨its, rv, p1, hz⟩ := I1.tuple hq
    have al : a < s1.heap.objs.size := by obtain ⟨o, ho, _⟩ := p1; exact Heap.lt_size ho
    refine enum1 (begins_tuple a its.toArray) (show s1.heap.IsTuple a its.toArray from p1) fun h' he hit hk => wpAny_pyIter_enum he ?_
    have I2 : Inv X pins σ H1 { s1 with heap := h' } := I1.kept (t' := s1.toks) hk
    refine ⟨s1.heap.objs.size + 1, [s1.heap.objs.size + 1, s1.heap.objs.size], _, _, H1, rfl, I2, turn_enumT a (s1.heap.objs.size + 1) s1.heap.objs.size,
      ⟨⟨.none, he⟩, ⟨_, hit, rfl, rfl⟩, Nat.succ_ne_self _, Nat.ne_of_lt (Nat.lt_succ_of_lt al), Nat.ne_of_lt al⟩, fun b hb => ?_, q⟩
    have hle : s1.heap.objs.size ≤ b := by
      rcases List.mem_cons.mp hb with z | z
      · rw [z]; exact Nat.le_add_right _ _
      · rw [List.mem_singleton.mp z]; exact Nat.le_refl _
    exact I1.fpOk hle (I1.hok.fresh hle)
theorem walk_enumT {K : PySem.W.Frag} {a : Addr} {xs : List V} : Walk (IteT K a) xs.length (fun H => SqT K H a xs) (YPair (fun i => some (.int (i : Nat))) (fun i => xs[i]?)) where
  goes := fun i _ hi q => ⟨xs, xs[i], q, by simp [hi]⟩
  stops := fun _ q => ⟨xs, q, Nat.le_refl _⟩
  yields := fun i H v H' _ q y => by
    obtain ⟨T, x, h1, h2, h3, h4⟩ := y
    exact ⟨T, .int (i : Nat), x, h1, h2, h3, rfl, h4 xs q⟩
end Vf

/-! Part D: the dice, a list that changes beside the data. -/
namespace Vf
open PySem PySem.Spec PyProof.Rows L2

/-- a def of the text as the top has left it -/
structure DefAt (K : PySem.W.Frag) (mg : Str → Option Value) (x : Str) (st : Stmt) (ps : List Str) (f : Addr) (fd : FuncData) : Prop where
  F : Fun K x x st f fd
  b : Binds K fd ps []
  g : mg x = some (.ref f)

/-- the heap without what stands at S -/
def hide (H : Hp) (S : List Addr) : Hp := fun b => if b ∈ S then none else H b
theorem hide_ne {H : Hp} {S : List Addr} {b : Addr} (h : b ∉ S) : hide H S b = H b := if_neg h
theorem hide_of {H : Hp} {S : List Addr} {b : Addr} {o : HO} (e : hide H S b = some o) : b ∉ S ∧ H b = some o := by
  unfold hide at e
  split at e
  · cases e
  · exact ⟨‹_›, e⟩
theorem hide_le {H : Hp} {S : List Addr} : Ext (hide H S) H := fun _ _ e => (hide_of e).2
theorem hide_sub {H : Hp} {S S2 : List Addr} (h : ∀ x ∈ S, x ∈ S2) : Ext (hide H S2) (hide H S) := fun b o e => by
  obtain ⟨n, e⟩ := hide_of e
  rw [hide_ne fun z => n (h b z)]
  exact e
theorem hide_upd {H : Hp} {S : List Addr} {p : Addr} {o : HO} (h : p ∈ S) : hide (upd H p o) S = hide H S := by
  funext b
  unfold hide
  split
  · rfl
  · have nb : b ≠ p := fun e => ‹b ∉ S› (by rw [e]; exact h)
    rw [upd_ne nb]
/-- the dice stand at D -/
def Dc (H : Hp) (D : Addr) : Prop := ∃ x y z : Int, H D = some (.lst [.int x, .int y, .int z])
/-- from H to H2: the dice may have been rolled, what else stood stands -/
structure Ge (D : Addr) (H H2 : Hp) : Prop where
  kp : ∀ b o, b ≠ D → H b = some o → H2 b = some o
  dc : Dc H2 D
/-- what stands at S is left out of account: the dice among it, all of it tracked -/
structure Hid (H : Hp) (D : Addr) (S : List Addr) : Prop where
  mem : D ∈ S
  tr : ∀ x ∈ S, H x ≠ none
theorem Ext.rfl' {H : Hp} : Ext H H := fun _ _ e => e
theorem Ext.tr {H H1 H2 : Hp} (a : Ext H H1) (b : Ext H1 H2) : Ext H H2 := fun c o e => b c o (a c o e)
theorem Ext.nw {H : Hp} {p : Addr} {o : HO} (h : H p = none) : Ext H (upd H p o) := fun b u e => by
  rw [upd_ne (ne_of_none e h)]
  exact e
theorem Ext.no {H H1 : Hp} {p : Addr} (a : Ext H H1) (h : H1 p = none) : H p = none := by
  cases e : H p with
  | none => rfl
  | some o =>
    rw [a p o e] at h
    cases h
theorem Ext.dc {H H1 : Hp} {D : Addr} (a : Ext H H1) (d : Dc H D) : Dc H1 D := let ⟨x, y, z, e⟩ := d; ⟨x, y, z, a _ _ e⟩
theorem Ext.hd {H H1 : Hp} {S : List Addr} (a : Ext H H1) : Ext (hide H S) (hide H1 S) := fun b o e => by
  obtain ⟨n, e⟩ := hide_of e
  rw [hide_ne n]
  exact a b o e
/-- a list that H does not know may change -/
theorem Ext.mut {H H1 : Hp} {p : Addr} {o : HO} (a : Ext H H1) (h : H p = none) : Ext H (upd H1 p o) := fun b u e => by
  rw [upd_ne (ne_of_none e h)]
  exact a b u e
theorem Ge.of {H H1 : Hp} {D : Addr} (a : Ext H H1) (d : Dc H D) : Ge D H H1 := ⟨fun b o _ e => a b o e, a.dc d⟩
theorem Ge.rfl' {H : Hp} {D : Addr} (d : Dc H D) : Ge D H H := ⟨fun _ _ _ e => e, d⟩
theorem Ge.tr {H H1 H2 : Hp} {D : Addr} (a : Ge D H H1) (b : Ge D H1 H2) : Ge D H H2 := ⟨fun c o n e => b.kp c o n (a.kp c o n e), b.dc⟩
theorem Ge.nw {H H1 : Hp} {D p : Addr} {o : HO} (a : Ge D H H1) (h : H1 p = none) : Ge D H (upd H1 p o) := a.tr (Ge.of (Ext.nw h) a.dc)
theorem Ge.more {H H1 H2 : Hp} {D : Addr} (a : Ge D H H1) (b : Ext H1 H2) : Ge D H H2 := a.tr (Ge.of b a.dc)
theorem Dc.ne {H : Hp} {D p : Addr} (d : Dc H D) (h : H p = none) : p ≠ D := fun e => by
  obtain ⟨x, y, z, q⟩ := d
  rw [e, q] at h
  cases h
theorem Dc.some {H : Hp} {D : Addr} (d : Dc H D) : H D ≠ none := fun e => d.ne e rfl
theorem Ge.some {H H1 : Hp} {D p : Addr} (a : Ge D H H1) (h : H p ≠ none) : H1 p ≠ none := fun e => by
  cases q : H p with
  | none => exact h q
  | some o =>
    rw [a.kp p o (a.dc.ne e) q] at e
    cases e
theorem Ge.fresh {H H1 : Hp} {D p : Addr} (a : Ge D H H1) (h : H1 p = none) : H p = none := by
  cases e : H p with
  | none => rfl
  | some o => exact absurd h (a.some (by rw [e]; exact fun z => nomatch z))
theorem Ge.atL {K : PySem.W.Frag} {H H1 : Hp} {D b : Addr} {xs : List V} (a : Ge D H H1) (n : b ≠ D) (h : SqL K H b xs) : SqL K H1 b xs := by
  rcases h with (h | ⟨o, h⟩) | h
  · exact .inl (.inl (a.kp _ _ n h))
  · exact .inl (.inr ⟨o, a.kp _ _ n h⟩)
  · exact .inr h
theorem Hid.one {H : Hp} {D : Addr} (d : Dc H D) : Hid H D [D] := ⟨List.mem_cons_self, fun x hx => by
  rw [List.mem_singleton.mp hx]
  exact d.some⟩
theorem Hid.ge {H H1 : Hp} {D : Addr} {S : List Addr} (h : Hid H D S) (g : Ge D H H1) : Hid H1 D S := ⟨h.mem, fun x hx => g.some (h.tr x hx)⟩
theorem Hid.ext {H H1 : Hp} {D : Addr} {S : List Addr} (h : Hid H D S) (g : Ext H H1) : Hid H1 D S := ⟨h.mem, fun x hx e => by
  cases q : H x with
  | none => exact h.tr x hx q
  | some o =>
    rw [g x o q] at e
    cases e⟩
theorem Hid.nw {H : Hp} {D p : Addr} {S : List Addr} (h : Hid H D S) (n : H p = none) : p ∉ S := fun z => h.tr p z n
theorem Hid.more {H : Hp} {D p : Addr} {S : List Addr} (h : Hid H D S) (n : H p ≠ none) : Hid H D (p :: S) := ⟨List.mem_cons_of_mem _ h.mem, fun x hx => by
  rcases List.mem_cons.mp hx with e | e
  · rw [e]
    exact n
  · exact h.tr x e⟩
theorem Ge.hd {H H1 : Hp} {D : Addr} {S : List Addr} (a : Ge D H H1) (h : D ∈ S) : Ext (hide H S) (hide H1 S) := fun b o e => by
  obtain ⟨n, e⟩ := hide_of e
  rw [hide_ne n]
  exact a.kp b o (fun z => n (z ▸ h)) e
theorem Ge.q {H H1 : Hp} {D : Addr} {S : List Addr} {v : V} {d : PyData} (a : Ge D H H1) (h : D ∈ S) (q : Dq (hide H S) v d) : Dq (hide H1 S) v d := q.ext (a.hd h)
theorem Dq.up {H : Hp} {S : List Addr} {v : V} {d : PyData} (h : Dq (hide H S) v d) : Dq H v d := h.ext hide_le
theorem DqAll.up {H : Hp} {S : List Addr} {v : List V} {d : List PyData} (h : DqAll (hide H S) v d) : DqAll H v d := h.ext hide_le
/-- a new thing, seen where S is left out -/
theorem hide_new {H : Hp} {D p : Addr} {S : List Addr} {o : HO} (h : Hid H D S) (n : H p = none) : hide (upd H p o) S p = some o := by
  rw [hide_ne (h.nw n), upd_same]
/-- rolled: the list at D is another one -/
theorem Ge.roll {H H1 : Hp} {D : Addr} {x y z : Int} (a : Ge D H H1) : Ge D H (upd H1 D (.lst [.int x, .int y, .int z])) :=
  ⟨fun b o n e => by rw [upd_ne n]; exact a.kp b o n e, x, y, z, upd_same⟩

theorem vmem {xs : List V} {i : Int} (h0 : 0 ≤ i) (h1 : i < xs.length) : ∃ v, v ∈ xs ∧ atI xs i = some v := by
  obtain ⟨j, rfl⟩ := Int.eq_ofNat_of_zero_le h0
  have h2 : j < xs.length := by omega
  exact ⟨xs[j], List.getElem_mem h2, atI_nat (List.getElem?_eq_getElem h2)⟩
theorem lt_line {n : Nat} (h : n ≤ 100000) : n < sizeLine := Nat.lt_of_le_of_lt h (by decide)
theorem le_line {n : Nat} (h : n ≤ 100000) : n ≤ sizeLine := Nat.le_of_lt (lt_line h)

/-! ### the promises of the dice -/
def spDice (K : PySem.W.Frag) : Sp := fun vs H Q _ => ∃ (l : Addr) (ns : List Int) (i : Nat), vs = [.ref l, .int (i : Int)] ∧ SqL K H l (ns.map V.int) ∧ i < 1000 ∧
  ∀ (D : Addr) (H2 : Hp), H D = none → Ext H H2 → Dc H2 D → Q (.ref D) H2
def spRoll : Sp := fun vs H Q _ => ∃ (D : Addr) (m : Int), vs = [.ref D, .int m] ∧ Dc H D ∧ 0 < m ∧ m.natAbs < 2 ^ 8000 ∧
  ∀ (r : Int) (H2 : Hp), 0 ≤ r → r < m → Ge D H H2 → Q (.int r) H2
def spPick : Sp := fun vs H Q _ => ∃ (D l : Addr) (xs : List V), vs = [.ref D, .ref l] ∧ Dc H D ∧ H l = some (.lst xs) ∧ l ≠ D ∧ xs ≠ [] ∧ xs.length ≤ 100000 ∧
  ∀ (v : V) (H2 : Hp), v ∈ xs → Ge D H H2 → Q v H2
/-- rolls of the dice at D come to a whole number -/
def spGenI (P : Int → Prop) : Sp := fun vs H Q _ => ∃ D : Addr, vs = [.ref D] ∧ Dc H D ∧ ∀ (i : Int) (H2 : Hp), P i → Ge D H H2 → Q (.int i) H2
/-- rolls of the dice at D come to data, S left out of account -/
def spGen (P : PyData → Prop) : Sp := fun vs H Q _ => ∃ (D : Addr) (S : List Addr), vs = [.ref D] ∧ Dc H D ∧ Hid H D S ∧
  ∀ (v : V) (d : PyData) (H2 : Hp), P d → Ge D H H2 → Dq (hide H2 S) v d → Q v H2
/-- a test of data that leaves the heap as it is, or makes new things alone -/
def spP0 (f : PyData → Bool) : Sp := fun vs H Q _ => ∃ (v : V) (d : PyData), vs = [v] ∧ Dq H v d ∧ Q (.bl (f d)) H
def spP (W : PyData → Prop) (f : PyData → Bool) : Sp := fun vs H Q _ => ∃ (v : V) (d : PyData), vs = [v] ∧ Dq H v d ∧ W d ∧ ∀ H2 : Hp, Ext H H2 → Q (.bl (f d)) H2
def spLaw (K : PySem.W.Frag) : Sp := fun vs H Q _ => ∃ (a : Addr) (ns : List Int), vs = [.ref a] ∧ SqL K H a (ns.map V.int) ∧ ns.length ≤ 63 ∧ ∀ H2, Q (.bl true) H2
/-- the dice's cell comes to true -/
def spTrue : Sp := fun vs H Q _ => ∃ D : Addr, vs = [.ref D] ∧ Dc H D ∧ ∀ H2 : Hp, Ge D H H2 → Q (.bl true) H2
end Vf

/-! Part F: comprehensions. -/
namespace Vf
open PySem PySem.Spec PyProof.Rows L2

section
variable {K : PySem.W.Frag} {σ : L2.St} {H : Hp} {te : TE} {tt : TT} {vs : List Nat} {i : Nat} {Q : VK} {a : Addr}
/-- over a tuple of data, a test of each: the list of the answers -/
theorem lcT_map {xs : List V} {ds : List PyData} {j : Nat} (f : PyData → V) (h0 : σ[j]? = some (some (.ref a))) (h1 : H a = some (.tup xs)) (h2 : DqAll H xs ds) (hz : xs.length ≤ 100000)
    (hw : ∀ v : V, wipe ((wipe σ vs).set i (some v)) vs = wipe σ vs)
    (he : ∀ (v : V) (d : PyData) (H2 : Hp) (R : VK), Ext H H2 → Dq H2 v d → (∀ H3, Ext H2 H3 → R (f d) H3) → te ((wipe σ vs).set i (some v)) H2 R)
    (k : ∀ (D : Addr) (H2 : Hp), H D = none → Ext H H2 → H2 D = some (.lst (ds.map f)) → Q (.ref D) H2) :
    tLc (iTup K (tVar j)) (gName i) tYes te vs σ H Q := by
  refine ⟨_, h0, a, rfl, ⟨_, SqT.of h1⟩, fun D hD => ?_⟩
  refine lc_it (walk_tup (K := K) (a := a) (xs := xs)) (fun n H2 => Ext H H2 ∧ H2 D = some (.lst ((ds.take n).map f))) ⟨Ext.nw hD, upd_same⟩ (fun n H2 _ p => SqT.of (p.1 _ _ h1)) (fun n x H2 H3 hn p y => ?_) (fun H2 p => ?_)
  · obtain ⟨rfl, hx⟩ := y
    obtain ⟨d, hd, q⟩ := h2.at hx
    refine ⟨hw x, ?_⟩
    unfold tYes
    dsimp only
    rw [if_pos (rfl : true = true)]
    refine (he x d H3 _ p.1 (q.ext p.1) fun H4 e4 => ⟨_, e4 _ _ p.2, ?_, ?_, ?_⟩)
    · rw [List.length_map, List.length_take]
      have := h2.len
      exact lt_line (by omega)
    · exact fun b o e => by
        rw [upd_ne (ne_of_none e hD)]
        exact e4 _ _ (p.1 _ _ e)
    · rw [upd_same, List.take_add_one, hd, List.map_append]
      rfl
  · rw [h2.len, List.take_length] at p
    exact k D H2 hD p.1 p.2
/-- over a tuple of data, those that do not pass: is there one -/
theorem lcT_filter {xs : List V} {ds : List PyData} {j : Nat} (hi : i < (wipe σ vs).length) (f : PyData → Bool) (h0 : σ[j]? = some (some (.ref a))) (h1 : H a = some (.tup xs)) (h2 : DqAll H xs ds) (hz : xs.length ≤ 100000)
    (hw : ∀ v : V, wipe ((wipe σ vs).set i (some v)) vs = wipe σ vs)
    (ht : ∀ (v : V) (d : PyData) (H2 : Hp) (R : Bool → Hp → Prop), Ext H H2 → Dq H2 v d → (∀ H3, Ext H2 H3 → R (!f d) H3) → tt ((wipe σ vs).set i (some v)) H2 R)
    (k : ∀ (D : Addr) (H2 : Hp) (acc : List V), H D = none → Ext H H2 → H2 D = some (.lst acc) → acc.isEmpty = ds.all f → Q (.ref D) H2) :
    tLc (iTup K (tVar j)) (gName i) tt (tVar i) vs σ H Q := by
  refine ⟨_, h0, a, rfl, ⟨_, SqT.of h1⟩, fun D hD => ?_⟩
  refine lc_it (walk_tup (K := K) (a := a) (xs := xs)) (fun n H2 => Ext H H2 ∧ ∃ acc : List V, H2 D = some (.lst acc) ∧ acc.length ≤ n ∧ acc.isEmpty = (ds.take n).all f) ⟨Ext.nw hD, [], upd_same, Nat.le_refl _, rfl⟩
    (fun n H2 _ p => SqT.of (p.1 _ _ h1)) (fun n x H2 H3 hn p y => ?_) (fun H2 p => ?_)
  · obtain ⟨rfl, hx⟩ := y
    obtain ⟨d, hd, q⟩ := h2.at hx
    obtain ⟨e0, acc, hacc, hl, hb⟩ := p
    have tk : (ds.take (n + 1)).all f = ((ds.take n).all f && f d) := by
      rw [List.take_add_one, hd, List.all_append]
      simp
    refine ⟨hw x, ?_⟩
    refine ht x d H3 _ e0 (q.ext e0) fun H4 e4 => ?_
    cases hf : f d with
    | true =>
      refine iteF ⟨e0.tr e4, acc, e4 _ _ hacc, Nat.le_succ_of_le hl, ?_⟩
      rw [tk, hf, Bool.and_true]
      exact hb
    | false =>
      refine iteT ⟨x, by rw [List.getElem?_set_self hi], acc, e4 _ _ hacc, lt_line (by omega), ?_, _, upd_same, by rw [List.length_append]; exact Nat.succ_le_succ hl, ?_⟩
      · exact fun b o e => by
          rw [upd_ne (ne_of_none e hD)]
          exact e4 _ _ (e0 _ _ e)
      · rw [tk, hf, Bool.and_false]
        cases acc <;> rfl
  · obtain ⟨e0, acc, hacc, hl, hb⟩ := p
    rw [h2.len, List.take_length] at hb
    exact k D H2 acc hD e0 hacc hb
end
section
variable {K : PySem.W.Frag} {σ : L2.St} {H : Hp} {te : TE} {tt : TT} {ta : TA} {vs : List Nat} {i : Nat} {Q : VK} {D : Addr} {S : List Addr}
/-- [e for k in range(n)], n and e by rolls of the dice at D -/
theorem lcR_gen (Cn : Int → Prop) (Pm : Hp → V → Prop) (mono : ∀ (A B : Hp) (v : V), Ext A B → Pm A v → Pm B v) (hS : Hid H D S)
    (hta : ∀ R : List V → Hp → Prop, (∀ (n : Int) (H2 : Hp), 0 ≤ n → n ≤ 100000 → Cn n → Ge D H H2 → R [.int n] H2) → ta σ H R)
    (hw : ∀ v : V, wipe ((wipe σ vs).set i (some v)) vs = wipe σ vs)
    (he : ∀ (v : V) (S2 : List Addr) (H2 : Hp) (R : VK), Ge D H H2 → Hid H2 D S2 → (∀ (x : V) (H3 : Hp), Ge D H2 H3 → Pm (hide H3 S2) x → R x H3) → te ((wipe σ vs).set i (some v)) H2 R)
    (k : ∀ (n : Int) (L : Addr) (H2 : Hp) (xs : List V), H L = none → L ≠ D → Cn n → Ge D H H2 → H2 L = some (.lst xs) → (xs.length : Int) = n → (∀ x ∈ xs, Pm (hide H2 S) x) → Q (.ref L) H2) :
    tLc (iRng1 ta) (gName i) tYes te vs σ H Q := by
  refine hta _ fun n H1 n0 n1 cn g1 => ⟨n, rfl, by omega, by omega, fun L hL => ?_⟩
  have nL := g1.dc.ne hL
  refine lc_it (walk_range (lo := 0) (n := n.toNat)) (fun j H2 => Ge D H H2 ∧ ∃ xs : List V, H2 L = some (.lst xs) ∧ xs.length = j ∧ ∀ x ∈ xs, Pm (hide H2 (L :: S)) x)
    ⟨g1.nw hL, [], upd_same, rfl, fun x hx => nomatch hx⟩ (fun _ _ _ _ => trivial) (fun j x H2 H3 hn p y => ?_) (fun H2 p => ?_)
  · obtain ⟨rfl, rfl⟩ := y
    obtain ⟨g2, xs, hxs, hl, hp⟩ := p
    refine ⟨hw _, ?_⟩
    unfold tYes
    dsimp only
    rw [if_pos (rfl : true = true)]
    have hS3 : Hid H3 D (L :: S) := (hS.ge g2).more (by rw [hxs]; exact fun z => nomatch z)
    refine he _ (L :: S) H3 _ g2 hS3 fun z H4 g4 hz => ⟨xs, g4.kp _ _ nL hxs, lt_line (by omega), ?_, _, upd_same, by rw [List.length_append, hl]; rfl, fun x hx => ?_⟩
    · refine ⟨fun b o nb e => ?_, ?_⟩
      · have nbL : b ≠ L := fun q => by
          rw [q, g1.fresh hL] at e
          cases e
        rw [upd_ne nbL]
        exact (g2.tr g4).kp b o nb e
      · obtain ⟨a1, a2, a3, e⟩ := g4.dc
        exact ⟨a1, a2, a3, by rw [upd_ne nL.symm]; exact e⟩
    · rw [hide_upd List.mem_cons_self]
      rcases List.mem_append.mp hx with hx | hx
      · exact mono _ _ _ (g4.hd hS3.mem) (hp x hx)
      · rw [List.mem_singleton.mp hx]
        exact hz
  · obtain ⟨g2, xs, hxs, hl, hp⟩ := p
    exact k n L H2 xs (g1.fresh hL) nL cn g2 hxs (by omega) fun x hx => mono _ _ _ (hide_sub fun y hy => List.mem_cons_of_mem _ hy) (hp x hx)
/-- over the signs of a text, a test of each -/
theorem lcS_map {z : Str} {j : Nat} (f : Nat → Bool) (h0 : σ[j]? = some (some (.str z))) (hz : z.length ≤ 100000)
    (hw : ∀ v : V, wipe ((wipe σ vs).set i (some v)) vs = wipe σ vs)
    (he : ∀ (c : Nat) (H2 : Hp) (R : VK), Ext H H2 → R (.bl (f c)) H2 → te ((wipe σ vs).set i (some (.str ⟨#[c]⟩))) H2 R)
    (k : ∀ (L : Addr) (H2 : Hp), Ext H H2 → H2 L = some (.lst ((z.cps.toList.map f).map V.bl)) → Q (.ref L) H2) :
    tLc (iStr (tVar j)) (gName i) tYes te vs σ H Q := by
  refine ⟨_, h0, z, rfl, fun L hL => ?_⟩
  have ez : z.cps.size = z.cps.toList.length := by simp
  refine lc_it (walk_str (z := z)) (fun n H2 => Ext H H2 ∧ H2 L = some (.lst (((z.cps.toList.take n).map f).map V.bl))) ⟨Ext.nw hL, upd_same⟩ (fun _ _ _ _ => trivial) (fun n x H2 H3 hn p y => ?_) (fun H2 p => ?_)
  · obtain ⟨rfl, c, hc, rfl⟩ := y
    have hc2 : z.cps.toList[n]? = some c := by simpa using hc
    refine ⟨hw _, ?_⟩
    unfold tYes
    dsimp only
    rw [if_pos (rfl : true = true)]
    refine he c H3 _ p.1 ⟨_, p.2, ?_, p.1.mut hL, ?_⟩
    · rw [List.length_map, List.length_map, List.length_take]
      have : z.cps.size ≤ 100000 := hz
      exact lt_line (by omega)
    · rw [upd_same, List.take_add_one, hc2, List.map_append, List.map_append]
      rfl
  · rw [ez, List.take_length] at p
    exact k L H2 p.1 p.2
/-- over the signs of a text, those that do not pass: is there one -/
theorem lcS_filter {z : Str} {j : Nat} (hi : i < (wipe σ vs).length) (f : Nat → Bool) (h0 : σ[j]? = some (some (.str z))) (hz : z.length ≤ 100000)
    (hw : ∀ v : V, wipe ((wipe σ vs).set i (some v)) vs = wipe σ vs)
    (ht : ∀ (c : Nat) (H2 : Hp) (R : Bool → Hp → Prop), Ext H H2 → R (!f c) H2 → tt ((wipe σ vs).set i (some (.str ⟨#[c]⟩))) H2 R)
    (k : ∀ (L : Addr) (H2 : Hp) (acc : List V), Ext H H2 → H2 L = some (.lst acc) → acc.isEmpty = z.cps.toList.all f → Q (.ref L) H2) :
    tLc (iStr (tVar j)) (gName i) tt (tVar i) vs σ H Q := by
  refine ⟨_, h0, z, rfl, fun L hL => ?_⟩
  have ez : z.cps.size = z.cps.toList.length := by simp
  refine lc_it (walk_str (z := z)) (fun n H2 => Ext H H2 ∧ ∃ acc : List V, H2 L = some (.lst acc) ∧ acc.length ≤ n ∧ acc.isEmpty = (z.cps.toList.take n).all f) ⟨Ext.nw hL, [], upd_same, Nat.le_refl _, rfl⟩
    (fun _ _ _ _ => trivial) (fun n x H2 H3 hn p y => ?_) (fun H2 p => ?_)
  · obtain ⟨rfl, c, hc, rfl⟩ := y
    have hc2 : z.cps.toList[n]? = some c := by simpa using hc
    obtain ⟨e0, acc, hacc, hl, hb⟩ := p
    have tk : (z.cps.toList.take (n + 1)).all f = ((z.cps.toList.take n).all f && f c) := by
      rw [List.take_add_one, hc2, List.all_append]
      simp
    refine ⟨hw _, ht c H3 _ e0 ?_⟩
    cases hf : f c with
    | true =>
      refine iteF ⟨e0, acc, hacc, Nat.le_succ_of_le hl, ?_⟩
      rw [tk, hf, Bool.and_true]
      exact hb
    | false =>
      have : z.cps.size ≤ 100000 := hz
      refine iteT ⟨_, by rw [List.getElem?_set_self hi], acc, hacc, lt_line (by omega), e0.mut hL, _, upd_same, by rw [List.length_append]; exact Nat.succ_le_succ hl, ?_⟩
      rw [tk, hf, Bool.and_false]
      cases acc <;> rfl
  · obtain ⟨e0, acc, hacc, hl, hb⟩ := p
    rw [ez, List.take_length] at hb
    exact k L H2 acc e0 hacc hb
end
end Vf

/-! Part G: what evaluates to data. -/
namespace Vf
open PySem PySem.Spec PyProof.Rows L2

/-- te comes to the data d, making new things alone -/
def EvD (te : TE) (σ : L2.St) (H : Hp) (d : PyData) : Prop := ∀ H1, Ext H H1 → ∀ Q : VK, (∀ (v : V) (H2 : Hp), Ext H1 H2 → Dq H2 v d → Q v H2) → te σ H1 Q
def EvDA (ta : TA) (σ : L2.St) (H : Hp) (ds : List PyData) : Prop := ∀ H1, Ext H H1 → ∀ Q : List V → Hp → Prop, (∀ (vs : List V) (H2 : Hp), Ext H1 H2 → DqAll H2 vs ds → Q vs H2) → ta σ H1 Q
section
variable {K : PySem.W.Frag} {σ : L2.St} {H : Hp} {ta tb te tl : TE} {tr : TA} {d : PyData} {ds as bs : List PyData} {v : V} {Q : VK} {vs : List Nat} {i j : Nat}
theorem evd_c (h : ∀ H, Dq H v d) : EvD (tC v) σ H d := fun H1 _ Q q => q v H1 Ext.rfl' (h H1)
theorem evd_int {n : Int} : EvD (tC (.int n)) σ H (.int n) := evd_c fun _ => .int n
theorem evd_bl {b : Bool} : EvD (tC (.bl b)) σ H (.bool b) := evd_c fun _ => .bl b
theorem evd_non : EvD (tC .non) σ H .none := evd_c fun _ => .non
theorem evd_str {z : Str} : EvD (tC (.str z)) σ H (.str z) := evd_c fun _ => .str z
theorem evd_var (h0 : σ[j]? = some (some v)) (h : Dq H v d) : EvD (tVar j) σ H d := fun H1 e Q q => ⟨v, h0, q v H1 Ext.rfl' (h.ext e)⟩
theorem evda_nil : EvDA tNil σ H [] := fun H1 _ Q q => q [] H1 Ext.rfl' .nil
theorem evda_cons (h : EvD te σ H d) (r : EvDA tr σ H ds) : EvDA (tCons te tr) σ H (d :: ds) := fun H1 e Q q =>
  h H1 e _ fun x H2 e2 dx => r H2 (e.tr e2) _ fun xs H3 e3 dxs => q (x :: xs) H3 (e2.tr e3) (.cons (dx.ext e3) dxs)
theorem evd_tup (h : EvDA tr σ H ds) (hl : ds.length ≤ 1000) : EvD (tTup tr) σ H (.tuple ds) := fun H1 e Q q =>
  h H1 e _ fun xs H2 e2 dx => ⟨le_line (by rw [dx.len]; omega), fun p hp => q (.ref p) _ (e2.tr (Ext.nw hp)) (.tup upd_same (dx.ext (Ext.nw hp)))⟩
theorem evd_lst (h : EvDA tr σ H ds) (hl : ds.length ≤ 1000) : EvD (tLst tr) σ H (.list ds) := fun H1 e Q q =>
  h H1 e _ fun xs H2 e2 dx => ⟨le_line (by rw [dx.len]; omega), fun p hp => q (.ref p) _ (e2.tr (Ext.nw hp)) (.lst upd_same (dx.ext (Ext.nw hp)))⟩
theorem evd_cat (ha : EvD ta σ H (.list as)) (hb : EvD tb σ H (.list bs)) (hl : as.length + bs.length ≤ 1000) : EvD (tOp rCat ta tb) σ H (.list (as ++ bs)) := fun H1 e Q q =>
  ha H1 e _ fun x H2 e2 dx => hb H2 (e.tr e2) _ fun y H3 e3 dy => by
    have dx := dx.ext e3
    cases dx with
    | lst h1 r1 =>
      cases dy with
      | lst h2 r2 =>
        exact ⟨_, _, _, _, rfl, rfl, h1, h2, le_line (by rw [r1.len, r2.len]; omega), fun p hp => q (.ref p) _ ((e2.tr e3).tr (Ext.nw hp)) (.lst upd_same ((r1.app r2).ext (Ext.nw hp)))⟩
theorem evd_int2 {C : Int → Int → Prop} {g : Int → Int → V} {a b c : Int} (ha : EvD ta σ H (.int a)) (hb : EvD tb σ H (.int b)) (hc : C a b) (e : g a b = .int c) : EvD (tOp (rI C g) ta tb) σ H (.int c) := fun H1 x Q q =>
  ha H1 x _ fun u H2 e2 du => hb H2 (x.tr e2) _ fun w H3 e3 dw => by
    cases du
    cases dw
    exact ⟨a, b, rfl, rfl, hc, by rw [e]; exact q _ H3 (e2.tr e3) (.int c)⟩
theorem evd_int0 {g : Int → Int → V} {a b c : Int} (ha : EvD ta σ H (.int a)) (hb : EvD tb σ H (.int b)) (e : g a b = .int c) : EvD (tOp (rI0 g) ta tb) σ H (.int c) := fun H1 x Q q =>
  ha H1 x _ fun u H2 e2 du => hb H2 (x.tr e2) _ fun w H3 e3 dw => by
    cases du
    cases dw
    exact ⟨a, b, rfl, rfl, by rw [e]; exact q _ H3 (e2.tr e3) (.int c)⟩
theorem dqall_rep {H : Hp} {xs : List V} (h : DqAll H xs ds) : ∀ n : Nat, DqAll H (List.replicate n xs).flatten (List.replicate n ds).flatten
  | 0 => .nil
  | n + 1 => by
    rw [List.replicate_succ, List.replicate_succ, List.flatten_cons, List.flatten_cons]
    exact h.app (dqall_rep h n)
theorem evd_rep {n : Int} (ha : EvD ta σ H (.tuple ds)) (h0 : ds ≠ []) (h1 : ds.length ≤ 1000) (h2 : 2 ≤ n) (h3 : n ≤ 1000) : EvD (tOp (rRepT K) ta (tC (.int n))) σ H (.tuple (List.replicate n.toNat ds).flatten) := fun H1 e Q q =>
  ha H1 e _ fun x H2 e2 dx => by
    cases dx with
    | tup g1 r1 =>
      refine ⟨_, n, _, rfl, rfl, SqT.of g1, fun z => h0 ?_, h2, h3, by rw [r1.len]; exact h1, fun p hp => q (.ref p) _ (e2.tr (Ext.nw hp)) (.tup upd_same ((dqall_rep r1 _).ext (Ext.nw hp)))⟩
      have := r1.len
      rw [z] at this
      exact List.length_eq_zero_iff.mp this.symm
mutual
theorem dq_dp {H : Hp} : ∀ {v : V} {d : PyData}, Dq H v d → d.hasDict = false → Dp K H v d
  | _, _, .non, _ => .non
  | _, _, .bl b, _ => .bl b
  | _, _, .int i, _ => .int i
  | _, _, .str x, _ => .str x
  | _, _, .lst h r, e => .lst (SqL.of h) (dqa_dpa r (by simpa [PyData.hasDict] using e))
  | _, _, .tup h r, e => .tup (SqT.of h) (dqa_dpa r (by simpa [PyData.hasDict] using e))
  | _, _, .dct h k r, e => by simp [PyData.hasDict] at e
theorem dqa_dpa {H : Hp} : ∀ {vs : List V} {ds : List PyData}, DqAll H vs ds → PyData.hasDictAll ds = false → DpAll K H vs ds
  | _, _, .nil, _ => .nil
  | _, _, .cons h r, e => by
    simp only [PyData.hasDictAll, Bool.or_eq_false_iff] at e
    exact .cons (dq_dp h e.1) (dqa_dpa r e.2)
end
/-- over a list of data, each comes to a flat value -/
theorem lcL_map (f : PyData → V) (htl : EvD tl σ H (.list ds)) (hz : ds.length ≤ 100000) (hw : ∀ v : V, wipe ((wipe σ vs).set i (some v)) vs = wipe σ vs)
    (he : ∀ (v : V) (d : PyData) (H2 : Hp) (R : VK), Ext H H2 → d ∈ ds → Dq H2 v d → (∀ H3, Ext H2 H3 → R (f d) H3) → te ((wipe σ vs).set i (some v)) H2 R)
    (k : ∀ (D : Addr) (H2 : Hp), Ext H H2 → H2 D = some (.lst (ds.map f)) → Q (.ref D) H2) :
    tLc (iList K tl) (gName i) tYes te vs σ H Q := by
  refine htl H Ext.rfl' _ fun v H1 e1 dv => ?_
  cases dv with
  | @lst a xs _ h1 h2 =>
    refine ⟨a, rfl, ⟨_, SqL.of h1⟩, fun D hD => ?_⟩
    refine lc_it (walk_list (K := K) (a := a) (xs := xs)) (fun n H2 => Ext H1 H2 ∧ H2 D = some (.lst ((ds.take n).map f))) ⟨Ext.nw hD, upd_same⟩ (fun n H2 _ p => SqL.of (p.1 _ _ h1)) (fun n x H2 H3 hn p y => ?_) (fun H2 p => ?_)
    · obtain ⟨rfl, hx⟩ := y
      obtain ⟨d, hd, q⟩ := h2.at hx
      refine ⟨hw x, ?_⟩
      unfold tYes
      dsimp only
      rw [if_pos (rfl : true = true)]
      refine he x d H3 _ (e1.tr p.1) (List.mem_of_getElem? hd) (q.ext p.1) fun H4 e4 => ⟨_, e4 _ _ p.2, ?_, (p.1.tr e4).mut hD, ?_⟩
      · rw [List.length_map, List.length_take]
        exact lt_line (by omega)
      · rw [upd_same, List.take_add_one, hd, List.map_append]
        rfl
    · rw [h2.len, List.take_length] at p
      exact k D H2 (e1.tr p.1) p.2
/-- over a list of data, each comes to data -/
theorem lcL_data (f : PyData → PyData) (htl : EvD tl σ H (.list ds)) (hz : ds.length ≤ 100000) (hw : ∀ v : V, wipe ((wipe σ vs).set i (some v)) vs = wipe σ vs)
    (he : ∀ (D : Addr) (v : V) (d : PyData) (H2 : Hp) (R : VK), Ext H H2 → H2 D ≠ none → d ∈ ds → Dq H2 v d → (∀ (y : V) (H3 : Hp), Ext H2 H3 → Dq (hide H3 [D]) y (f d) → R y H3) → te ((wipe σ vs).set i (some v)) H2 R)
    (k : ∀ (D : Addr) (H2 : Hp), Ext H H2 → Dq H2 (.ref D) (.list (ds.map f)) → Q (.ref D) H2) :
    tLc (iList K tl) (gName i) tYes te vs σ H Q := by
  refine htl H Ext.rfl' _ fun v H1 e1 dv => ?_
  cases dv with
  | @lst a xs _ h1 h2 =>
    refine ⟨a, rfl, ⟨_, SqL.of h1⟩, fun D hD => ?_⟩
    refine lc_it (walk_list (K := K) (a := a) (xs := xs)) (fun n H2 => Ext H1 H2 ∧ ∃ ys : List V, H2 D = some (.lst ys) ∧ DqAll (hide H2 [D]) ys ((ds.take n).map f)) ⟨Ext.nw hD, [], upd_same, .nil⟩ (fun n H2 _ p => SqL.of (p.1 _ _ h1)) (fun n x H2 H3 hn p y => ?_) (fun H2 p => ?_)
    · obtain ⟨rfl, hx⟩ := y
      obtain ⟨d, hd, q⟩ := h2.at hx
      obtain ⟨e2, ys, hy, dy⟩ := p
      refine ⟨hw x, ?_⟩
      unfold tYes
      dsimp only
      rw [if_pos (rfl : true = true)]
      refine he D x d H3 _ (e1.tr e2) (by rw [hy]; exact fun z => nomatch z) (List.mem_of_getElem? hd) (q.ext e2) fun z H4 e4 dz => ⟨ys, e4 _ _ hy, ?_, (e2.tr e4).mut hD, _, upd_same, ?_⟩
      · have := dy.len
        rw [List.length_map, List.length_take] at this
        exact lt_line (by omega)
      · rw [hide_upd List.mem_cons_self, List.take_add_one, hd, List.map_append]
        exact (dy.ext e4.hd).app (.cons dz .nil)
    · obtain ⟨e2, ys, hy, dy⟩ := p
      rw [h2.len, List.take_length] at dy
      exact k D H2 (e1.tr e2) (.lst hy dy.up)
end
end Vf

namespace Law
open PySem PySem.Spec PyProof.Rows L2 Vf
/-! ### the text -/
def topS (i : Nat) : Stmt := PySem.Challenge.pw_shelfroutes_k01_names_integers_rows_resu.main.body.getD i (.Pass ⟨0, 0, 0, 0⟩)
abbrev s_is_tuple : Stmt := topS 11
abbrev N_is_tuple : List Str := ["value", "least", "most"]
abbrev P_is_tuple : List Str := ["value", "least", "most"]
theorem sc_is_tuple : FnScope N_is_tuple P_is_tuple (defScope s_is_tuple) := ⟨rfl, rfl, rfl, by decide +kernel, rfl, by decide +kernel, by decide +kernel⟩
abbrev s_is_name : Stmt := topS 7
abbrev N_is_name : List Str := ["value", "letter"]
abbrev P_is_name : List Str := ["value"]
theorem sc_is_name : FnScope N_is_name P_is_name (defScope s_is_name) := ⟨rfl, rfl, rfl, by decide +kernel, rfl, by decide +kernel, by decide +kernel⟩
abbrev s_is_integer : Stmt := topS 8
abbrev N_is_integer : List Str := ["value"]
abbrev P_is_integer : List Str := ["value"]
theorem sc_is_integer : FnScope N_is_integer P_is_integer (defScope s_is_integer) := ⟨rfl, rfl, rfl, by decide +kernel, rfl, by decide +kernel, by decide +kernel⟩
abbrev s_is_row : Stmt := topS 9
abbrev N_is_row : List Str := ["value", "entry"]
abbrev P_is_row : List Str := ["value"]
theorem sc_is_row : FnScope N_is_row P_is_row (defScope s_is_row) := ⟨rfl, rfl, rfl, by decide +kernel, rfl, by decide +kernel, by decide +kernel⟩
abbrev s_is_result : Stmt := topS 10
abbrev N_is_result : List Str := ["value", "has_gap", "given", "entry"]
abbrev P_is_result : List Str := ["value"]
theorem sc_is_result : FnScope N_is_result P_is_result (defScope s_is_result) := ⟨rfl, rfl, rfl, by decide +kernel, rfl, by decide +kernel, by decide +kernel⟩
abbrev s_dice : Stmt := topS 13
abbrev N_dice : List Str := ["_law_script", "_law_spot", "_law_cell", "_law_whole", "_law_seed"]
abbrev P_dice : List Str := ["_law_script", "_law_spot"]
theorem sc_dice : FnScope N_dice P_dice (defScope s_dice) := ⟨rfl, rfl, rfl, by decide +kernel, rfl, by decide +kernel, by decide +kernel⟩
abbrev s_roll : Stmt := topS 14
abbrev N_roll : List Str := ["_law_dice_here", "_law_many", "_law_digit", "_law_one", "_law_two"]
abbrev P_roll : List Str := ["_law_dice_here", "_law_many"]
theorem sc_roll : FnScope N_roll P_roll (defScope s_roll) := ⟨rfl, rfl, rfl, by decide +kernel, rfl, by decide +kernel, by decide +kernel⟩
abbrev s_pick : Stmt := topS 15
abbrev N_pick : List Str := ["_law_dice_here", "_law_items"]
abbrev P_pick : List Str := ["_law_dice_here", "_law_items"]
theorem sc_pick : FnScope N_pick P_pick (defScope s_pick) := ⟨rfl, rfl, rfl, by decide +kernel, rfl, by decide +kernel, by decide +kernel⟩
abbrev s_judge_integer : Stmt := topS 16
abbrev N_judge_integer : List Str := ["_law_value"]
abbrev P_judge_integer : List Str := ["_law_value"]
theorem sc_judge_integer : FnScope N_judge_integer P_judge_integer (defScope s_judge_integer) := ⟨rfl, rfl, rfl, by decide +kernel, rfl, by decide +kernel, by decide +kernel⟩
abbrev s_judge_name : Stmt := topS 17
abbrev N_judge_name : List Str := ["_law_value", "_law_sign"]
abbrev P_judge_name : List Str := ["_law_value"]
theorem sc_judge_name : FnScope N_judge_name P_judge_name (defScope s_judge_name) := ⟨rfl, rfl, rfl, by decide +kernel, rfl, by decide +kernel, by decide +kernel⟩
abbrev s_judge_row : Stmt := topS 18
abbrev N_judge_row : List Str := ["_law_value", "_law_one"]
abbrev P_judge_row : List Str := ["_law_value"]
theorem sc_judge_row : FnScope N_judge_row P_judge_row (defScope s_judge_row) := ⟨rfl, rfl, rfl, by decide +kernel, rfl, by decide +kernel, by decide +kernel⟩
abbrev s_judge_result : Stmt := topS 19
abbrev N_judge_result : List Str := ["_law_value", "_law_at", "_law_one", "_law_is_gap"]
abbrev P_judge_result : List Str := ["_law_value"]
theorem sc_judge_result : FnScope N_judge_result P_judge_result (defScope s_judge_result) := ⟨rfl, rfl, rfl, by decide +kernel, rfl, by decide +kernel, by decide +kernel⟩
abbrev s_number : Stmt := topS 20
abbrev N_number : List Str := ["_law_dice_here", "_law_way", "_law_edge"]
abbrev P_number : List Str := ["_law_dice_here"]
theorem sc_number : FnScope N_number P_number (defScope s_number) := ⟨rfl, rfl, rfl, by decide +kernel, rfl, by decide +kernel, by decide +kernel⟩
abbrev s_odd : Stmt := topS 21
abbrev N_odd : List Str := ["_law_dice_here", "_law_some"]
abbrev P_odd : List Str := ["_law_dice_here"]
theorem sc_odd : FnScope N_odd P_odd (defScope s_odd) := ⟨rfl, rfl, rfl, by decide +kernel, rfl, by decide +kernel, by decide +kernel⟩
abbrev s_put_at : Stmt := topS 22
abbrev N_put_at : List Str := ["_law_dice_here", "_law_items", "_law_one", "_law_at"]
abbrev P_put_at : List Str := ["_law_dice_here", "_law_items", "_law_one"]
theorem sc_put_at : FnScope N_put_at P_put_at (defScope s_put_at) := ⟨rfl, rfl, rfl, by decide +kernel, rfl, by decide +kernel, by decide +kernel⟩
abbrev s_some_name : Stmt := topS 23
abbrev N_some_name : List Str := ["_law_dice_here", "_law_signs", "_law_lots", "_law_word", "_law_turn", "_law_at", "_law_odd_here"]
abbrev P_some_name : List Str := ["_law_dice_here"]
theorem sc_some_name : FnScope N_some_name P_some_name (defScope s_some_name) := ⟨rfl, rfl, rfl, by decide +kernel, rfl, by decide +kernel, by decide +kernel⟩
abbrev s_some_row : Stmt := topS 24
abbrev N_some_row : List Str := ["_law_dice_here", "_law_row", "_law_turn", "_law_way"]
abbrev P_some_row : List Str := ["_law_dice_here"]
theorem sc_some_row : FnScope N_some_row P_some_row (defScope s_some_row) := ⟨rfl, rfl, rfl, by decide +kernel, rfl, by decide +kernel, by decide +kernel⟩
abbrev s_some_result : Stmt := topS 25
abbrev N_some_result : List Str := ["_law_dice_here", "_law_found", "_law_turn", "_law_way"]
abbrev P_some_result : List Str := ["_law_dice_here"]
theorem sc_some_result : FnScope N_some_result P_some_result (defScope s_some_result) := ⟨rfl, rfl, rfl, by decide +kernel, rfl, by decide +kernel, by decide +kernel⟩
abbrev s_told : Stmt := topS 26
abbrev N_told : List Str := ["_law_value"]
abbrev P_told : List Str := ["_law_value"]
theorem sc_told : FnScope N_told P_told (defScope s_told) := ⟨rfl, rfl, rfl, by decide +kernel, rfl, by decide +kernel, by decide +kernel⟩
abbrev s_due : Stmt := topS 27
abbrev N_due : List Str := ["_law_value", "_law_judged"]
abbrev P_due : List Str := ["_law_value"]
theorem sc_due : FnScope N_due P_due (defScope s_due) := ⟨rfl, rfl, rfl, by decide +kernel, rfl, by decide +kernel, by decide +kernel⟩
abbrev s_right : Stmt := topS 28
abbrev N_right : List Str := ["_law_dice_here", "_law_some", "_law_turn", "_law_value", "_law_text"]
abbrev P_right : List Str := ["_law_dice_here"]
theorem sc_right : FnScope N_right P_right (defScope s_right) := ⟨rfl, rfl, rfl, by decide +kernel, rfl, by decide +kernel, by decide +kernel⟩
abbrev s_law : Stmt := topS 29
abbrev N_law : List Str := ["_law_script", "_law_spot", "_law_some", "_law_due_here", "_law_told_here", "_law_one", "_law_value", "_law_word"]
abbrev P_law : List Str := ["_law_script"]
theorem sc_law : FnScope N_law P_law (defScope s_law) := ⟨rfl, rfl, rfl, by decide +kernel, rfl, by decide +kernel, by decide +kernel⟩
/-- where the defs stand -/
structure Adr where
  f_is_tuple : Addr
  o_is_tuple : FuncData
  f_is_name : Addr
  o_is_name : FuncData
  f_is_integer : Addr
  o_is_integer : FuncData
  f_is_row : Addr
  o_is_row : FuncData
  f_is_result : Addr
  o_is_result : FuncData
  f_dice : Addr
  o_dice : FuncData
  f_roll : Addr
  o_roll : FuncData
  f_pick : Addr
  o_pick : FuncData
  f_judge_integer : Addr
  o_judge_integer : FuncData
  f_judge_name : Addr
  o_judge_name : FuncData
  f_judge_row : Addr
  o_judge_row : FuncData
  f_judge_result : Addr
  o_judge_result : FuncData
  f_number : Addr
  o_number : FuncData
  f_odd : Addr
  o_odd : FuncData
  f_put_at : Addr
  o_put_at : FuncData
  f_some_name : Addr
  o_some_name : FuncData
  f_some_row : Addr
  o_some_row : FuncData
  f_some_result : Addr
  o_some_result : FuncData
  f_told : Addr
  o_told : FuncData
  f_due : Addr
  o_due : FuncData
  f_right : Addr
  o_right : FuncData
  f_law : Addr
  o_law : FuncData
/-- what the top has left -/
structure Txt (K : PySem.W.Frag) (mg : Str → Option Value) (A : Adr) : Prop where
  d_is_tuple : DefAt K mg "is_tuple" s_is_tuple P_is_tuple A.f_is_tuple A.o_is_tuple
  d_is_name : DefAt K mg "is_name" s_is_name P_is_name A.f_is_name A.o_is_name
  d_is_integer : DefAt K mg "is_integer" s_is_integer P_is_integer A.f_is_integer A.o_is_integer
  d_is_row : DefAt K mg "is_row" s_is_row P_is_row A.f_is_row A.o_is_row
  d_is_result : DefAt K mg "is_result" s_is_result P_is_result A.f_is_result A.o_is_result
  d_dice : DefAt K mg "_law_dice" s_dice P_dice A.f_dice A.o_dice
  d_roll : DefAt K mg "_law_roll" s_roll P_roll A.f_roll A.o_roll
  d_pick : DefAt K mg "_law_pick" s_pick P_pick A.f_pick A.o_pick
  d_judge_integer : DefAt K mg "_law_judge_integer" s_judge_integer P_judge_integer A.f_judge_integer A.o_judge_integer
  d_judge_name : DefAt K mg "_law_judge_name" s_judge_name P_judge_name A.f_judge_name A.o_judge_name
  d_judge_row : DefAt K mg "_law_judge_row" s_judge_row P_judge_row A.f_judge_row A.o_judge_row
  d_judge_result : DefAt K mg "_law_judge_result" s_judge_result P_judge_result A.f_judge_result A.o_judge_result
  d_number : DefAt K mg "_law_number" s_number P_number A.f_number A.o_number
  d_odd : DefAt K mg "_law_odd" s_odd P_odd A.f_odd A.o_odd
  d_put_at : DefAt K mg "_law_put_at" s_put_at P_put_at A.f_put_at A.o_put_at
  d_some_name : DefAt K mg "_law_some_name" s_some_name P_some_name A.f_some_name A.o_some_name
  d_some_row : DefAt K mg "_law_some_row" s_some_row P_some_row A.f_some_row A.o_some_row
  d_some_result : DefAt K mg "_law_some_result" s_some_result P_some_result A.f_some_result A.o_some_result
  d_told : DefAt K mg "_law_told" s_told P_told A.f_told A.o_told
  d_due : DefAt K mg "_law_due" s_due P_due A.f_due A.o_due
  d_right : DefAt K mg "_law_right" s_right P_right A.f_right A.o_right
  d_law : DefAt K mg "law" s_law P_law A.f_law A.o_law
  z_abs : mg "abs" = none
  z_all : mg "all" = none
  z_bool : mg "bool" = none
  z_enumerate : mg "enumerate" = none
  z_int : mg "int" = none
  z_isinstance : mg "isinstance" = none
  z_len : mg "len" = none
  z_list : mg "list" = none
  z_max : mg "max" = none
  z_min : mg "min" = none
  z_range : mg "range" = none
  z_repr : mg "repr" = none
  z_str : mg "str" = none
  z_tuple : mg "tuple" = none
  g__MAX_LETTERS : ∃ tk : Tok, mg "_MAX_LETTERS" = some (.int 8 tk)
  g_MAX_COLUMNS : ∃ tk : Tok, mg "MAX_COLUMNS" = some (.int 6 tk)
  g_MAX_DIGITS : ∃ tk : Tok, mg "MAX_DIGITS" = some (.int 60 tk)
  g__MAX_ENTRIES : ∃ tk : Tok, mg "_MAX_ENTRIES" = some (.int 5 tk)
  g__LETTERS : ∃ tk : Tok, mg "_LETTERS" = some (.str (Str.ofString "abcdefghijklmnopqrstuvwxyz") tk)
  g__TOO_LONG : ∃ tk : Tok, mg "_TOO_LONG" = some (.int (10 ^ 60) tk)
/-! ### what the defs come to -/
abbrev rInt1 : List V → Hp → VK → Prop := fun xs H Q => (∃ i, xs = [.int i] ∧ Q (.int i) H) ∨ ∃ k, xs = [.bl k] ∧ Q (.int (if k then 1 else 0)) H
abbrev alpha : Str := Str.ofString "abcdefghijklmnopqrstuvwxyz"
abbrev TOO : Int := 10 ^ 60
def letD (c : Nat) : Bool := decide (c ∈ alpha.cps.toList)
def tupD (a b : Int) : PyData → Bool
  | .tuple ds => decide (a ≤ (ds.length : Int)) && decide ((ds.length : Int) ≤ b)
  | _ => false
def nameD : PyData → Bool
  | .str z => (decide ((1 : Int) ≤ (z.length : Int)) && decide ((z.length : Int) ≤ 8)) && z.cps.toList.all letD
  | _ => false
def intD : PyData → Bool
  | .int i => decide (0 - TOO < i) && decide (i < TOO)
  | _ => false
def posD : PyData → Bool
  | .int i => (decide (0 - TOO < i) && decide (i < TOO)) && decide (1 ≤ i)
  | _ => false
def noneD : PyData → Bool
  | .none => true
  | _ => false
def rowD : PyData → Bool
  | .tuple ds => tupD 1 6 (.tuple ds) && ds.all intD
  | _ => false
def gapAt (ds : List PyData) (j : Nat) (d : PyData) : Bool := noneD d && (decide ((0 : Int) < (j : Int)) && decide ((j : Int) = (ds.length : Int) - 1))
def okFrom (ds : List PyData) : Nat → List PyData → Bool
  | _, [] => true
  | j, d :: r => (gapAt ds j d || posD d) && okFrom ds (j + 1) r
def resD : PyData → Bool
  | .tuple ds => tupD 1 5 (.tuple ds) && okFrom ds 0 ds
  | _ => false
def lastNone (ds : List PyData) : Bool := match ds.getLast? with
  | some d => noneD d
  | none => false
def givenD (ds : List PyData) : List PyData := if (decide (1 < (ds.length : Int)) && lastNone ds) = true then ds.dropLast else ds
theorem abs_too (i : Int) : decide ((if i < 0 then -i else i) < TOO) = (decide (0 - TOO < i) && decide (i < TOO)) := by
  generalize TOO = N
  by_cases h : i < 0
  · rw [if_pos h]
    by_cases h1 : -i < N
    · rw [decide_eq_true h1, decide_eq_true (by omega), decide_eq_true (by omega)]
      rfl
    · rw [decide_eq_false h1, decide_eq_false (show ¬ 0 - N < i by omega)]
      rfl
  · rw [if_neg h]
    by_cases h1 : i < N
    · rw [decide_eq_true h1, decide_eq_true (by omega)]
      rfl
    · rw [decide_eq_false h1, Bool.and_false]
theorem noneD_iff {H : Hp} {v : V} {d : PyData} (h : Dq H v d) : decide (v = V.non) = noneD d := by
  cases h <;> first | rfl | exact decide_eq_false (fun e => nomatch e)
theorem okFrom_pre : ∀ (ds as : List PyData) (j : Nat), j + as.length < ds.length → okFrom ds j as = as.all posD
  | _, [], _, _ => rfl
  | ds, a :: r, j, h => by
    rw [List.length_cons] at h
    have e : gapAt ds j a = false := by
      unfold gapAt
      rw [decide_eq_false (show ¬ ((j : Int) = (ds.length : Int) - 1) by omega), Bool.and_false, Bool.and_false]
    show ((gapAt ds j a || posD a) && okFrom ds (j + 1) r) = (a :: r).all posD
    rw [e, Bool.false_or, okFrom_pre ds r (j + 1) (by omega), List.all_cons]
theorem okFrom_app : ∀ (ds as bs : List PyData) (j : Nat), okFrom ds j (as ++ bs) = (okFrom ds j as && okFrom ds (j + as.length) bs)
  | _, [], _, _ => by rw [List.nil_append, List.length_nil, Nat.add_zero]; rfl
  | ds, a :: r, bs, j => by
    show ((gapAt ds j a || posD a) && okFrom ds (j + 1) (r ++ bs)) = (((gapAt ds j a || posD a) && okFrom ds (j + 1) r) && okFrom ds (j + (a :: r).length) bs)
    rw [okFrom_app ds r bs (j + 1), Bool.and_assoc, List.length_cons, show j + 1 + r.length = j + (r.length + 1) by omega]
theorem given_ok (ds : List PyData) : (givenD ds).all posD = okFrom ds 0 ds := by
  by_cases h0 : ds = []
  · subst h0
    rfl
  have hl := (List.dropLast_concat_getLast h0).symm
  have gl : ds.getLast? = some (ds.getLast h0) := List.getLast?_eq_some_getLast h0
  have n0 : 0 < ds.length := List.length_pos_iff.mpr h0
  have ld : ds.dropLast.length = ds.length - 1 := List.length_dropLast
  have pre : okFrom ds 0 ds.dropLast = ds.dropLast.all posD := okFrom_pre ds _ 0 (by omega)
  have all : okFrom ds 0 ds = (ds.dropLast.all posD && (gapAt ds (0 + ds.dropLast.length) (ds.getLast h0) || posD (ds.getLast h0))) := by
    have e := okFrom_app ds ds.dropLast [ds.getLast h0] 0
    rw [← hl, pre] at e
    rw [e]
    show (_ && ((_ || _) && true)) = _
    rw [Bool.and_true]
  have gp : gapAt ds (0 + ds.dropLast.length) (ds.getLast h0) = (decide (1 < (ds.length : Int)) && lastNone ds) := by
    unfold gapAt lastNone
    rw [gl, ld, Bool.and_comm]
    congr 1
    by_cases h1 : 1 < (ds.length : Int)
    · rw [decide_eq_true h1, decide_eq_true (by omega), decide_eq_true (by omega)]
      rfl
    · rw [decide_eq_false h1, decide_eq_false (show ¬ ((0 : Int) < ((0 + (ds.length - 1) : Nat) : Int)) by omega)]
      rfl
  rw [all, gp]
  unfold givenD
  cases hb : (decide (1 < (ds.length : Int)) && lastNone ds) with
  | true =>
    rw [if_pos rfl, Bool.true_or, Bool.and_true]
  | false =>
    rw [if_neg Bool.false_ne_true, Bool.false_or]
    have e := congrArg (fun l => List.all l posD) hl
    simp only [List.all_append, List.all_cons, List.all_nil, Bool.and_true] at e
    exact e
def Sm (d : PyData) : Prop := ∀ z, d = .str z → z.length ≤ 1000
theorem gName_app {i : Nat} {v : V} {σ : L2.St} {H : Hp} {Q : L2.St → Hp → Prop} : gName i v σ H Q = Q (σ.set i (some v)) H := rfl
theorem ite_b {b : Bool} {A B : Prop} (h1 : b = true → A) (h2 : b = false → B) : if b = true then A else B := by
  cases b with
  | true => exact h1 rfl
  | false => exact h2 rfl
theorem q_is {Q : VK} {H : Hp} {a b : Bool} (e : a = b) (q : Q (.bl a) H) : Q (.bl b) H := e ▸ q
theorem not_t {b : Bool} (h : (!b) = true) : b = false := by cases b <;> first | rfl | cases h
theorem not_f {b : Bool} (h : (!b) = false) : b = true := by cases b <;> first | rfl | cases h
theorem all_id {α : Type} (l : List α) (f : α → Bool) : (l.map f).all id = l.all f := by
  induction l with
  | nil => rfl
  | cons a r ih => rw [List.map_cons, List.all_cons, List.all_cons, ih] <;> rfl
def spTup : Sp := fun vs H Q _ => ∃ (v : V) (d : PyData) (a b : Int), vs = [v, .int a, .int b] ∧ Dq H v d ∧ Q (.bl (tupD a b d)) H
def Any (_ : PyData) : Prop := True
theorem tup_len {H : Hp} {xs : List V} {ds : List PyData} {a b : Int} (h2 : DqAll H xs ds) (e : tupD a b (.tuple ds) = true) : (xs.length : Int) ≤ b := by
  have e1 : (decide (a ≤ (ds.length : Int)) && decide ((ds.length : Int) ≤ b)) = true := e
  rw [Bool.and_eq_true] at e1
  have := of_decide_eq_true e1.2
  rw [h2.len]
  exact this
theorem row_len {H : Hp} {xs : List V} {ds : List PyData} {a : Int} (h2 : DqAll H xs ds) (e : tupD a 6 (.tuple ds) = true) : xs.length ≤ 100000 := by
  have := tup_len h2 e
  omega
theorem lcT_bool {K : PySem.W.Frag} {σ : L2.St} {H : Hp} {te : TE} {vs : List Nat} {i : Nat} {Q : VK} {a : Addr} {xs : List V} {ds : List PyData} {j : Nat} (f : PyData → Bool) (h0 : σ[j]? = some (some (.ref a))) (h1 : H a = some (.tup xs)) (h2 : DqAll H xs ds) (hz : xs.length ≤ 100000)
    (hw : ∀ v : V, wipe ((wipe σ vs).set i (some v)) vs = wipe σ vs)
    (he : ∀ (v : V) (d : PyData) (H2 : Hp) (R : VK), Ext H H2 → Dq H2 v d → R (.bl (f d)) H2 → te ((wipe σ vs).set i (some v)) H2 R)
    (k : ∀ (D : Addr) (H2 : Hp), H D = none → Ext H H2 → H2 D = some (.lst ((ds.map f).map V.bl)) → Q (.ref D) H2) :
    tLc (iTup K (tVar j)) (gName i) tYes te vs σ H Q :=
  lcT_map (fun d => V.bl (f d)) h0 h1 h2 hz hw (fun v d H2 R e q r => he v d H2 R e q (r H2 Ext.rfl')) fun D H2 n e h => k D H2 n e (by rw [h, List.map_map] <;> rfl)
theorem sIx_back (n d : Nat) (h : 1 ≤ n) : HT.sIx n d (some (-1)) = n - 1 := by
  show (if (-1 : Int) < 0 then ((-1 : Int) + (n : Int)).toNat else min (-1 : Int).toNat n) = n - 1
  rw [if_pos (by decide)]
  omega
theorem cut_back (xs : List V) (h : 1 ≤ xs.length) : cutV xs none (some (-1)) = xs.dropLast := by
  unfold cutV
  rw [sIx_back _ _ h, HT.sIx_none, List.drop_zero, Nat.sub_zero, List.dropLast_eq_take]
theorem dq_dropLast {H : Hp} {vs : List V} {ds : List PyData} (h : DqAll H vs ds) : DqAll H vs.dropLast ds.dropLast := by
  rw [List.dropLast_eq_take, List.dropLast_eq_take, h.len]
  exact h.take _
theorem last_dq {H : Hp} {xs : List V} {ds : List PyData} (h2 : DqAll H xs ds) (h : 0 < ds.length) : ∃ (v : V) (d : PyData), atI xs (-1) = some v ∧ ds.getLast? = some d ∧ Dq H v d := by
  have hx : xs ≠ [] := fun e => by
    have := h2.len
    rw [e, List.length_nil] at this
    omega
  have hd : ds ≠ [] := List.length_pos_iff.mp h
  refine ⟨xs.getLast hx, ds.getLast hd, ?_, List.getLast?_eq_some_getLast hd, ?_⟩
  · have e := atI_last xs.dropLast (xs.getLast hx)
    rw [List.dropLast_concat_getLast] at e
    exact e
  · have e1 : xs[xs.length - 1]? = some (xs.getLast hx) := by rw [← List.getLast?_eq_getElem?, List.getLast?_eq_some_getLast hx]
    obtain ⟨d, hd2, q⟩ := h2.at e1
    rw [h2.len, ← List.getLast?_eq_getElem?, List.getLast?_eq_some_getLast hd] at hd2
    cases hd2
    exact q
theorem lt_true {a b : Int} (h : decide (a < b) = true) : a < b := of_decide_eq_true h
theorem given_all {ds : List PyData} {b : Bool} (hb : (decide (1 < (ds.length : Int)) && lastNone ds) = b) : (if b = true then ds.dropLast else ds).all posD = okFrom ds 0 ds := by
  rw [← given_ok, ← hb]
  rfl
theorem pos_t {i : Int} (e : intD (.int i) = true) : decide (1 ≤ i) = posD (.int i) := by
  have e : (decide (0 - TOO < i) && decide (i < TOO)) = true := e
  show _ = ((decide _ && decide _) && decide _)
  rw [e, Bool.true_and]
theorem pos_f {i : Int} (e : intD (.int i) = false) : false = posD (.int i) := by
  have e : (decide (0 - TOO < i) && decide (i < TOO)) = false := e
  show _ = ((decide _ && decide _) && decide _)
  rw [e, Bool.false_and]
theorem mul_ok {i j : Int} (a b : Nat) (ha : i.natAbs < 2 ^ a) (hb : j.natAbs < 2 ^ b) (h0 : 0 < a ∧ 0 < b ∧ a + b ≤ 1000000) : CMulW i j := wide_mul ha hb h0.1 h0.2.1 h0.2.2
theorem mod_lt (i : Int) {m : Int} (n : Nat) (h : 0 < m) (hm : m ≤ 2 ^ n) : (i % m).natAbs < 2 ^ n := by
  have h1 := Int.emod_nonneg i (show m ≠ 0 by omega)
  have h2 := Int.emod_lt_of_pos i h
  have h3 : ((i % m).natAbs : Int) = i % m := Int.natAbs_of_nonneg h1
  have h4 : ((2 ^ n : Nat) : Int) = 2 ^ n := by push_cast; rfl
  generalize (2 : Nat) ^ n = N at h4 ⊢
  generalize (2 : Int) ^ n = M at h4 hm
  omega
theorem if_cell {K : PySem.W.Frag} {σ : L2.St} {H : Hp} {Q : VK} {l : Addr} {ns : List Int} {i : Nat} (h0 : σ[0]? = some (some (.ref l))) (h1 : σ[1]? = some (some (.int (i : Int)))) (hS : SqL K H l (ns.map V.int)) (hi : i < 1000) (k : ∀ c : Int, Q (.int c) H) :
    if decide ((i : Int) < ((ns.map V.int).length : Int)) = true then tOp (rIxL K) (tVar 0) (tVar 1) σ H Q
    else tOp (rI0 fun i j => .int (i + j)) (tOp (rI CMulW fun i j => .int (i * j)) (tC (.int 29)) (tVar 1)) (tC (.int 7)) σ H Q := by
  by_cases hlt : i < ns.length
  · have e : (ns.map V.int)[i]? = some (.int ns[i]) := by
      rw [List.getElem?_map, List.getElem?_eq_getElem hlt]
      rfl
    refine ite_b (fun _ => ⟨_, h0, _, h1, l, _, _, _, rfl, rfl, hS, atI_nat e, k _⟩) (fun z => ?_)
    rw [List.length_map] at z
    have := of_decide_eq_false z
    omega
  · refine ite_b (fun z => ?_) (fun _ => ⟨_, h1, _, _, rfl, rfl, mul_ok 10 10 (by decide) (by omega) (by decide), _, _, rfl, rfl, k _⟩)
    rw [List.length_map] at z
    have := of_decide_eq_true z
    omega
theorem b2i_lt (k : Bool) : (if k then 1 else 0 : Int).natAbs < 2 ^ 1 := by cases k <;> decide
theorem andV_b {ta tb : TE} {σ : L2.St} {H : Hp} {Q : VK} (a b : Bool) (ha : ∀ R : VK, R (.bl a) H → ta σ H R) (hb : a = true → ∀ R : VK, R (.bl b) H → tb σ H R) (q : Q (.bl (a && b)) H) : tAndV ta tb σ H Q := by
  refine ha _ ⟨a, rfl, ?_⟩
  cases a with
  | true => exact hb rfl Q q
  | false => exact q
theorem ok_step {ds : List PyData} {i : Nat} {d : PyData} (h : ds[i]? = some d) : okFrom ds 0 (ds.take (i + 1)) = (okFrom ds 0 (ds.take i) && (gapAt ds i d || posD d)) := by
  have hi : i < ds.length := (List.getElem?_eq_some_iff.mp h).1
  rw [List.take_add_one, h]
  show okFrom ds 0 (ds.take i ++ [d]) = _
  rw [okFrom_app, List.length_take, Nat.min_eq_left (Nat.le_of_lt hi), Nat.zero_add]
  show (_ && ((_ || _) && true)) = _
  rw [Bool.and_true]
theorem ok_cut {ds : List PyData} {i : Nat} {d : PyData} (h : ds[i]? = some d) (e : (gapAt ds i d || posD d) = false) : okFrom ds 0 ds = false := by
  have s := ok_step h
  rw [e, Bool.and_false] at s
  have a := okFrom_app ds (ds.take (i + 1)) (ds.drop (i + 1)) 0
  rw [List.take_append_drop] at a
  rw [a, s, Bool.false_and]
theorem rb {m : Int} (h : m.natAbs < 2 ^ 100) : m.natAbs < 2 ^ 8000 := Nat.lt_trans h (Nat.pow_lt_pow_right (by decide) (by decide))
/-! ### data that are told by repr -/
structure Am (d : PyData) : Prop where
  lv : d.leavesShort 120 = true
  bk : d.bulk ≤ 10
  sh : d.showable = true
  dp : d.depth ≤ 5
  nd : d.hasDict = true → noList d = true
  sm : Sm d
structure Good (d : PyData) : Prop where
  tl : Tells d
  sm : Sm d
/-- neither a dict nor a list in it -/
structure Fl (d : PyData) : Prop where
  am : Am d
  hd : d.hasDict = false
  nl : noList d = true
abbrev Big : Nat := 10 ^ 100
theorem fl_int {i : Int} (h : i.natAbs < Big) : Fl (.int i) := by
  refine ⟨⟨?_, Nat.zero_le _, ?_, Nat.zero_le _, (fun z => nomatch z), (fun z e => nomatch e)⟩, rfl, rfl⟩
  · have e := int_text_length_le10 (k := 100) (by decide) h
    simp only [PyData.leavesShort, decide_eq_true_eq]
    show (Str.ofString (toString i)).length ≤ 120
    rw [PySem.ofString_length]
    omega
  · simp only [PyData.showable, decide_eq_true_eq]
    refine log2_small (Nat.lt_trans h ?_)
    decide +kernel
theorem fl_none : Fl .none := ⟨⟨rfl, Nat.zero_le _, rfl, Nat.zero_le _, (fun z => nomatch z), (fun z e => nomatch e)⟩, rfl, rfl⟩
theorem lv_all {n : Nat} : ∀ {as : List PyData}, (∀ a ∈ as, a.leavesShort n = true) → PyData.leavesShortAll n as = true
  | [], _ => rfl
  | a :: r, h => by
    simp only [PyData.leavesShortAll, Bool.and_eq_true]
    exact ⟨h a List.mem_cons_self, lv_all fun b hb => h b (List.mem_cons_of_mem _ hb)⟩
theorem sh_all : ∀ {as : List PyData}, (∀ a ∈ as, a.showable = true) → PyData.showableAll as = true
  | [], _ => rfl
  | a :: r, h => by
    simp only [PyData.showableAll, Bool.and_eq_true]
    exact ⟨h a List.mem_cons_self, sh_all fun b hb => h b (List.mem_cons_of_mem _ hb)⟩
theorem bk_all {n : Nat} : ∀ {as : List PyData}, (∀ a ∈ as, a.bulk ≤ n) → PyData.bulkAll as ≤ (n + 1) * as.length
  | [], _ => Nat.zero_le _
  | a :: r, h => by
    have h1 := h a List.mem_cons_self
    have h2 := bk_all fun b hb => h b (List.mem_cons_of_mem _ hb)
    simp only [PyData.bulkAll, List.length_cons, Nat.mul_add, Nat.mul_one]
    omega
theorem dp_all {n : Nat} : ∀ {as : List PyData}, (∀ a ∈ as, a.depth ≤ n) → PyData.depthAll as ≤ n
  | [], _ => Nat.zero_le _
  | a :: r, h => by
    have h1 := h a List.mem_cons_self
    have h2 := dp_all fun b hb => h b (List.mem_cons_of_mem _ hb)
    simp only [PyData.depthAll]
    omega
theorem nl_all : ∀ {as : List PyData}, (∀ a ∈ as, noList a = true) → noListA as = true
  | [], _ => rfl
  | a :: r, h => by
    simp only [noListA, Bool.and_eq_true]
    exact ⟨h a List.mem_cons_self, nl_all fun b hb => h b (List.mem_cons_of_mem _ hb)⟩
theorem hd_all : ∀ {as : List PyData}, (∀ a ∈ as, a.hasDict = false) → PyData.hasDictAll as = false
  | [], _ => rfl
  | a :: r, h => by
    simp only [PyData.hasDictAll, Bool.or_eq_false_iff]
    exact ⟨h a List.mem_cons_self, hd_all fun b hb => h b (List.mem_cons_of_mem _ hb)⟩
theorem tells_seq (d : PyData) (as : List PyData) (hl : as.length ≤ 100) (e1 : d.leavesShort 120 = PyData.leavesShortAll 120 as) (e2 : d.bulk = PyData.bulkAll as) (e3 : d.showable = PyData.showableAll as)
    (e4 : d.depth = PyData.depthAll as + 1) (nd : d.hasDict = true → noList d = true) (ha : ∀ a ∈ as, Am a) : Tells d := by
  refine ⟨e3.trans (sh_all fun a h => (ha a h).sh), nd, ?_, ?_⟩
  · have := dp_all fun a h => (ha a h).dp
    omega
  · have b := bk_all fun a h => (ha a h).bk
    have s := PyData.shown_le_bulk 120 (by decide) d (e1.trans (lv_all fun a h => (ha a h).lv))
    have m : (10 + 1) * as.length ≤ 1100 := by omega
    have m2 : (120 + 2) * d.bulk ≤ 122 * 1100 := Nat.mul_le_mul (Nat.le_refl _) (by omega)
    refine Nat.le_trans s (Nat.le_trans (show _ ≤ 200000 by omega) (by decide))
theorem good_am {d : PyData} (h : Am d) : Good d := by
  refine ⟨⟨h.sh, h.nd, Nat.le_trans h.dp (by decide), ?_⟩, h.sm⟩
  have s := PyData.shown_le_bulk 120 (by decide) d h.lv
  have b := h.bk
  have m2 : (120 + 2) * d.bulk ≤ 122 * 10 := Nat.mul_le_mul (Nat.le_refl _) b
  refine Nat.le_trans s (Nat.le_trans (show _ ≤ 200000 by omega) (by decide))
theorem good_tup {as : List PyData} (ha : ∀ a ∈ as, Am a) (hl : as.length ≤ 100) (nd : PyData.hasDictAll as = true → noListA as = true) : Good (.tuple as) :=
  ⟨tells_seq _ as hl (by simp only [PyData.leavesShort]) (by simp only [PyData.bulk]) (by simp only [PyData.showable]) (by simp only [PyData.depth]) (by simpa only [PyData.hasDict, noList] using nd) ha, fun z e => nomatch e⟩
theorem good_lst {as : List PyData} (ha : ∀ a ∈ as, Am a) (hl : as.length ≤ 100) (nd : PyData.hasDictAll as = false) : Good (.list as) :=
  ⟨tells_seq _ as hl (by simp only [PyData.leavesShort]) (by simp only [PyData.bulk]) (by simp only [PyData.showable]) (by simp only [PyData.depth]) (fun z => by simp only [PyData.hasDict] at z; rw [nd] at z; cases z) ha, fun z e => nomatch e⟩
theorem good_fl {as : List PyData} (ha : ∀ a ∈ as, Fl a) (hl : as.length ≤ 100) : Good (.tuple as) := good_tup (fun a h => (ha a h).am) hl fun _ => nl_all fun a h => (ha a h).nl
theorem good_put {as : List PyData} {d : PyData} (k j : Nat) (ha : ∀ a ∈ as, Fl a) (hd : Am d) (hl : as.length ≤ 40) : Good (.tuple (as.take k ++ d :: as.drop j)) := by
  have mem : ∀ a ∈ as.take k ++ d :: as.drop j, a = d ∨ Fl a := fun a h => by
    rcases List.mem_append.mp h with h | h
    · exact .inr (ha a (List.mem_of_mem_take h))
    · rcases List.mem_cons.mp h with h | h
      · exact .inl h
      · exact .inr (ha a (List.mem_of_mem_drop h))
  refine good_tup (fun a h => ?_) ?_ fun z => ?_
  · rcases mem a h with e | e
    · rw [e]
      exact hd
    · exact e.am
  · rw [List.length_append, List.length_cons, List.length_take, List.length_drop]
    omega
  · cases hb : d.hasDict with
    | true =>
      have n := hd.nd hb
      refine nl_all fun a h => ?_
      rcases mem a h with e | e
      · rw [e]
        exact n
      · exact e.nl
    | false =>
      have f := hd_all (as := as.take k ++ d :: as.drop j) fun a h => by
        rcases mem a h with e | e
        · rw [e]
          exact hb
        · exact e.hd
      rw [f] at z
      cases z
def oddDs : List PyData := [.none, .bool true, .bool false, .str (Str.ofString ""), .str (Str.ofString "a"), .str (Str.ofString "1"), .tuple [], .list [], .dict [], .tuple [.int 1], .list [.int 1], .dict [(.int 1, .int 2)], .str (Str.ofString "A"), .tuple [.tuple [.int 1]], .str (Str.ofString "\n"),
  .int ((10 ^ Int.toNat 60) * 10 ^ Int.toNat 39), .int (0 - 10 ^ Int.toNat 60)]
def amB (d : PyData) : Bool := d.leavesShort 120 && (decide (d.bulk ≤ 10) && (d.showable && (decide (d.depth ≤ 5) && ((!d.hasDict || noList d) && match d with | .str z => decide (z.length ≤ 1000) | _ => true))))
theorem am_of {d : PyData} (h : amB d = true) : Am d := by
  unfold amB at h
  simp only [Bool.and_eq_true, decide_eq_true_eq] at h
  obtain ⟨h1, h2, h3, h4, h5, h6⟩ := h
  refine ⟨h1, h2, h3, h4, fun z => ?_, fun z e => ?_⟩
  · rw [z] at h5
    simpa using h5
  · subst e
    simpa using h6
theorem odd_am : ∀ d ∈ oddDs, Am d := by
  have h : oddDs.all amB = true := by decide +kernel
  exact fun d hd => am_of (List.all_eq_true.mp h d hd)
theorem nb {i : Int} (h : i.natAbs < 1000) : i.natAbs < Big := Nat.lt_trans h (by decide +kernel)
theorem prod_b {r w s : Int} (hr : r.natAbs ≤ 10 ^ 18) (hw : w.natAbs ≤ 10 ^ 40) (h0 : 0 ≤ s) (h1 : s < 7) : (r * w - s).natAbs < Big := by
  have m := Nat.mul_le_mul hr hw
  rw [← Int.natAbs_mul] at m
  have e : 10 ^ 18 * 10 ^ 40 + 10 ≤ Big := by decide +kernel
  generalize (10 : Nat) ^ 18 * 10 ^ 40 = N at m e
  generalize Big = M at e ⊢
  omega
theorem edge_b {r : Int} (h0 : 0 ≤ r) (h1 : r < 4) : ((10 : Int) ^ Int.toNat 60 + r - 2).natAbs < Big := by
  have e : ((10 : Int) ^ Int.toNat 60).natAbs + 10 ≤ Big := by decide +kernel
  generalize (10 : Int) ^ Int.toNat 60 = N at e ⊢
  generalize Big = M at e ⊢
  omega
theorem edge_n {r : Int} (h0 : 0 ≤ r) (h1 : r < 4) : (0 - ((10 : Int) ^ Int.toNat 60 + r - 2)).natAbs < Big := by
  have := edge_b h0 h1
  omega
theorem dq_mem {H : Hp} : ∀ {vs : List V} {ds : List PyData} {v : V}, DqAll H vs ds → v ∈ vs → ∃ d, d ∈ ds ∧ Dq H v d
  | _, _, _, .nil, h => nomatch h
  | _, _, v, .cons (d := d) q r, h => by
    rcases List.mem_cons.mp h with e | e
    · rw [e]
      exact ⟨d, List.mem_cons_self, q⟩
    · obtain ⟨d2, m, q2⟩ := dq_mem r e
      exact ⟨d2, List.mem_cons_of_mem _ m, q2⟩
theorem slA {K : PySem.W.Frag} {H : Hp} {Q : VK} {a : Addr} {xs : List V} {lo hi : Option Int} (h : H a = some (.tup xs)) (k : ∀ (p : Addr) (H2 : Hp), Ext H H2 → H2 p = some (.tup (cutV xs lo hi)) → (p = a ∨ H p = none) → Q (.ref p) H2) : rSlA K (.ref a) lo hi H Q := by
  refine ⟨a, xs, rfl, SqT.of h, fun w => k a H Ext.rfl' ?_ (.inl rfl), fun _ p hp => k p _ (Ext.nw hp) upd_same (.inr hp)⟩
  have e : cutV xs lo hi = xs := by
    unfold cutV
    rw [w.1, w.2, List.drop_zero, Nat.sub_zero, List.take_length]
  rw [e]
  exact h
theorem catA {K : PySem.W.Frag} {H : Hp} {Q : VK} {a b : Addr} {xs ys : List V} (h1 : H a = some (.tup xs)) (h2 : H b = some (.tup ys)) (hz : xs.length + ys.length ≤ 100000)
    (k : ∀ (p : Addr) (H2 : Hp), Ext H H2 → H2 p = some (.tup (xs ++ ys)) → (p = a ∨ p = b ∨ H p = none) → Q (.ref p) H2) : rCatA K (.ref a) (.ref b) H Q := by
  refine ⟨a, b, xs, ys, rfl, rfl, SqT.of h1, SqT.of h2, le_line hz, fun e => k b H Ext.rfl' ?_ (.inr (.inl rfl)), fun _ e => k a H Ext.rfl' ?_ (.inl rfl), fun _ _ p hp => k p _ (Ext.nw hp) upd_same (.inr (.inr hp))⟩
  · rw [e, List.nil_append]
    exact h2
  · rw [e, List.append_nil]
    exact h1
def spPut : Sp := fun vs H Q _ => ∃ (D : Addr) (S : List Addr) (t : Addr) (v : V) (ds : List PyData) (d : PyData), vs = [.ref D, .ref t, v] ∧ Dc H D ∧ Hid H D S ∧ Dq (hide H S) (.ref t) (.tuple ds) ∧ Dq (hide H S) v d ∧ ds.length ≤ 40 ∧
  ∀ (v2 : V) (k j : Nat) (H2 : Hp), Ge D H H2 → Dq (hide H2 S) v2 (.tuple (ds.take k ++ d :: ds.drop j)) → Q v2 H2
theorem cut_take (xs : List V) {r : Int} (h0 : 0 ≤ r) : ∃ k, cutV xs none (some r) = xs.take k := by
  unfold cutV
  exact ⟨_, by rw [HT.sIx_none, List.drop_zero]⟩
theorem cut_drop (xs : List V) {r : Int} : ∃ k, cutV xs (some r) none = xs.drop k := by
  refine ⟨HT.sIx xs.length 0 (some r), ?_⟩
  unfold cutV
  rw [HT.sIx_none]
  exact List.take_of_length_le (by rw [List.length_drop]; exact Nat.le_refl _)
theorem tup_ne {H : Hp} {D c : Addr} {xs : List V} (dc : Dc H D) (h : H c = some (.tup xs)) : c ≠ D := fun e => by
  obtain ⟨x, y, z, q⟩ := dc
  rw [← e, h] at q
  cases q
theorem lst_len {H : Hp} {D c : Addr} {xs : List V} (dc : Dc H D) (h : H c = some (.lst xs)) (n : xs.length ≠ 3) : c ≠ D := fun e => by
  obtain ⟨x, y, z, q⟩ := dc
  rw [← e, h] at q
  cases q
  exact n rfl
def b2i (b : Bool) : Int := if b then 1 else 0
theorem mem_ints {v : V} : ∀ {ns : List Int}, v ∈ ns.map V.int → ∃ n, n ∈ ns ∧ v = .int n
  | ns, h => by
    obtain ⟨n, hn, e⟩ := List.mem_map.mp h
    exact ⟨n, hn, e.symm⟩
theorem ints_of {P : Int → Prop} : ∀ {xs : List V}, (∀ x ∈ xs, ∃ i, x = .int i ∧ P i) → ∃ ns : List Int, xs = ns.map V.int ∧ ∀ n ∈ ns, P n
  | [], _ => ⟨[], rfl, fun n h => nomatch h⟩
  | x :: r, h => by
    obtain ⟨i, rfl, p⟩ := h x List.mem_cons_self
    obtain ⟨ns, e, q⟩ := ints_of fun y hy => h y (List.mem_cons_of_mem _ hy)
    refine ⟨i :: ns, by rw [e]; rfl, fun n hn => ?_⟩
    rcases List.mem_cons.mp hn with z | z
    · rw [z]
      exact p
    · exact q n z
/-- a short text of plain signs -/
structure Wd (n : Nat) (z : Str) : Prop where
  ln : z.length ≤ n
  cs : ∀ c ∈ z.cps.toList, c < 1000
theorem ln_eq (z : Str) : z.length = z.cps.toList.length := by simp [Str.length]
theorem wd_app {a b : Str} {n m : Nat} (h1 : Wd n a) (h2 : Wd m b) : Wd (n + m) (a ++ b) := by
  have e : (a ++ b).cps.toList = a.cps.toList ++ b.cps.toList := by
    show (a.cps ++ b.cps).toList = _
    rw [Array.toList_append]
  refine ⟨?_, fun c hc => ?_⟩
  · rw [ln_eq, e, List.length_append, ← ln_eq, ← ln_eq]
    exact Nat.add_le_add h1.ln h2.ln
  · rw [e] at hc
    exact (List.mem_append.mp hc).elim (h1.cs c) (h2.cs c)
theorem wd_cut {z : Str} {n : Nat} (h : Wd n z) (lo hi : Option Int) : Wd n (cutS z lo hi) := by
  have e : (cutS z lo hi).cps.toList = (z.cps.toList.drop (HT.sIx z.length 0 lo)).take (HT.sIx z.length z.length hi - HT.sIx z.length 0 lo) := rfl
  refine ⟨?_, fun c hc => ?_⟩
  · rw [ln_eq, e, List.length_take, List.length_drop, ← ln_eq]
    have := h.ln
    omega
  · rw [e] at hc
    exact h.cs c (List.mem_of_mem_drop (List.mem_of_mem_take hc))
theorem wd_one {c : Nat} (h : c < 1000) : Wd 1 ⟨#[c]⟩ := ⟨Nat.le_refl _, fun d hd => by
  have e : d = c := by simpa using hd
  rw [e]
  exact h⟩
theorem wd_join : ∀ {ys : List Str}, (∀ y ∈ ys, Wd 1 y) → Wd ys.length (Str.join (Str.ofString "") ys)
  | [], _ => ⟨Nat.le_refl _, fun c hc => by simp [Str.join, Str.empty] at hc⟩
  | [y], h => h y List.mem_cons_self
  | x :: y :: r, h => by
    have h1 := h x List.mem_cons_self
    have h2 := wd_join (ys := y :: r) fun z hz => h z (List.mem_cons_of_mem _ hz)
    have e0 : (Str.ofString "").cps.toList = [] := by decide +kernel
    have h0 : Wd 0 (Str.ofString "") := ⟨Nat.le_refl _, fun c hc => by rw [e0] at hc; cases hc⟩
    have h3 := wd_app (wd_app h1 h0) h2
    have e : (x :: y :: r).length = 1 + 0 + (y :: r).length := by
      rw [List.length_cons]
      omega
    rw [e]
    exact h3
theorem wd_good {z : Str} (h : Wd 100 z) : Good (.str z) := by
  have lv : (PyData.str z).leavesShort 120 = true := by
    simp only [PyData.leavesShort, List.all_eq_true, decide_eq_true_eq]
    intro c hc
    exact Nat.lt_trans (h.cs c hc) (by decide)
  have hl := h.ln
  refine ⟨⟨rfl, (fun z => nomatch z), Nat.zero_le _, ?_⟩, fun y e => by cases e; omega⟩
  have s := PyData.shown_le_bulk 120 (by decide) _ lv
  have b : (PyData.str z).bulk ≤ 100 := hl
  have m2 : (120 + 2) * (PyData.str z).bulk ≤ 122 * 100 := Nat.mul_le_mul (Nat.le_refl _) b
  refine Nat.le_trans s (Nat.le_trans (show _ ≤ 200000 by omega) (by decide))
theorem strs_of : ∀ {xs : List V}, (∀ x ∈ xs, ∃ c, x = V.str ⟨#[c]⟩ ∧ c < 1000) → ∃ ys : List Str, xs = ys.map V.str ∧ (∀ y ∈ ys, Wd 1 y) ∧ (ys.map (·.length)).sum = ys.length
  | [], _ => ⟨[], rfl, (fun n h => nomatch h), rfl⟩
  | x :: r, h => by
    obtain ⟨c, rfl, p⟩ := h x List.mem_cons_self
    obtain ⟨ys, e, q, s⟩ := strs_of fun y hy => h y (List.mem_cons_of_mem _ hy)
    refine ⟨⟨#[c]⟩ :: ys, by rw [e]; rfl, fun y hy => ?_, ?_⟩
    · rcases List.mem_cons.mp hy with z | z
      · rw [z]
        exact wd_one p
      · exact q y z
    · rw [List.map_cons, List.sum_cons, s, List.length_cons]
      show 1 + ys.length = ys.length + 1
      omega
theorem sign_at {z : Str} (h : z.cps.toList.all (fun c => decide (c < 1000)) = true) {r : Int} (h0 : 0 ≤ r) (h1 : r < z.length) : ∃ c, atI z.cps.toList r = some c ∧ c < 1000 := by
  obtain ⟨j, rfl⟩ := Int.eq_ofNat_of_zero_le h0
  have h2 : j < z.cps.toList.length := by
    rw [← ln_eq]
    omega
  exact ⟨z.cps.toList[j], atI_nat (List.getElem?_eq_getElem h2), of_decide_eq_true (List.all_eq_true.mp h _ (List.getElem_mem h2))⟩
abbrev oddS : Str := Str.ofString "ABCXYZ0123456789 _-.,:;!?'/()[]{}<>=+*&@#^~|\n\n"
theorem _root_.Vf.Dc.ne' {H : Hp} {D c : Addr} {xs : List V} (dc : Dc H D) (h : H c = some (.tup xs)) : c ≠ D := tup_ne dc h
theorem dq_ref {H : Hp} {v : V} {ds : List PyData} (h : Dq H v (.tuple ds)) : ∃ p, v = .ref p := by
  cases h with
  | tup h1 h2 => exact ⟨_, rfl⟩
def flDs : List PyData := [.int 0, .int (-1), .bool true, .int (10 ^ Int.toNat 60), .int (10 ^ Int.toNat 60 - 1), .str (Str.ofString "1"), .int (0 - 10 ^ Int.toNat 59)]
theorem fl_ds : ∀ d ∈ flDs, Fl d := by
  have h : flDs.all (fun d => amB d && (!d.hasDict && noList d)) = true := by decide +kernel
  exact fun d hd => by
    have e := List.all_eq_true.mp h d hd
    simp only [Bool.and_eq_true, Bool.not_eq_true'] at e
    exact ⟨am_of e.1, e.2.1, e.2.2⟩
theorem put_mid {D : Addr} {S : List Addr} {H H4 H5 : Hp} {r : Int} {y : Option V} {ds : List PyData} {d : PyData} {v2 : V} {k j m : Nat} (fl : ∀ a ∈ ds, Fl a) (fd : Fl d) (ln : ds.length ≤ m) (g4 : Ge D H H4) (g5 : Ge D H4 H5)
    (dq5 : Dq (hide H5 S) v2 (.tuple (ds.take k ++ d :: ds.drop j))) :
    ∃ (t : Addr) (es : List PyData) (y2 : Option V), [some (V.ref D), some v2, y, some (V.int r)] = [some (.ref D), some (.ref t), y2, some (.int r)] ∧ Ge D H H5 ∧ Dq (hide H5 S) (.ref t) (.tuple es) ∧ (∀ a ∈ es, Fl a) ∧ es.length ≤ m + 1 + m := by
  obtain ⟨p, rfl⟩ := dq_ref dq5
  refine ⟨p, _, y, rfl, g4.tr g5, dq5, fun a h => ?_, ?_⟩
  · rcases List.mem_append.mp h with h | h
    · exact fl a (List.mem_of_mem_take h)
    · rcases List.mem_cons.mp h with h | h
      · rw [h]
        exact fd
      · exact fl a (List.mem_of_mem_drop h)
  · rw [List.length_append, List.length_cons, List.length_take, List.length_drop]
    omega
def four (d : PyData) : List Bool := [nameD d, intD d, rowD d, resD d]
def spFour : Sp := fun vs H Q _ => ∃ (v : V) (d : PyData), vs = [v] ∧ Dq H v d ∧ Sm d ∧ ∀ (L : Addr) (H2 : Hp), Ext H H2 → H L = none → H2 L = some (.lst ((four d).map V.bl)) → Q (.ref L) H2
theorem tells_four (bs : List Bool) (h : bs.length = 4) : Tells (.list (bs.map .bool)) := by
  refine (good_lst (fun a ha => ?_) (by rw [List.length_map, h]; decide) (hd_all fun a ha => ?_)).tl
  · obtain ⟨b, _, rfl⟩ := List.mem_map.mp ha
    exact am_of (by cases b <;> decide +kernel)
  · obtain ⟨b, _, rfl⟩ := List.mem_map.mp ha
    rfl
abbrev tenS : Int := 10 ^ Int.toNat 60
abbrev intT (ns : List Int) : PyData := .tuple (ns.map .int)
def someDs : List PyData := [.str (Str.ofString "abcdefgh"), .str (Str.ofString "abcdefghi"), .int (tenS - 1), .int tenS, .int (1 - tenS), .bool true, intT [1, 2, 3, 4, 5, 6], .tuple (List.replicate (7 : Int).toNat [PyData.int 1]).flatten, intT [0]] ++
  [.tuple [.int 1, .none], .tuple [.none], .tuple [.none, .int 1], .tuple [.int 1, .int 2, .int 3, .int 4, .none], intT [1, 2, 3, 4, 5], .tuple [.int 1, .int 2, .int 3, .int 4, .int 5, .none], .tuple [.int 3, .bool true]]
abbrev intL (ns : List Int) : PyData := .list (ns.map .int)
def dueDs : List PyData := ([intL [1, 0, 0, 0], intL [0, 0, 0, 0], intL [0, 1, 0, 0], intL [0, 0, 0, 0], intL [0, 1, 0, 0], intL [0, 0, 0, 0], intL [0, 0, 1, 0]] ++ [intL [0, 0, 0, 0], intL [0, 0, 1, 0], intL [0, 0, 0, 1], intL [0, 0, 0, 0], intL [0, 0, 0, 0], intL [0, 0, 0, 1], intL [0, 0, 1, 1]]) ++ [intL [0, 0, 0, 0], intL [0, 0, 0, 0]]
def smB : PyData → Bool
  | .str z => decide (z.length ≤ 1000)
  | _ => true
theorem sm_of {d : PyData} (h : smB d = true) : Sm d := fun z e => by
  subst e
  exact of_decide_eq_true h
theorem some_sm : ∀ d ∈ someDs, Sm d := by
  have h : someDs.all smB = true := by decide +kernel
  exact fun d hd => sm_of (List.all_eq_true.mp h d hd)
def toldD (d : PyData) : PyData := .list ((four d).map fun b => .int (b2i b))
theorem told_due : PyData.eqv (.list (someDs.map toldD)) (.list dueDs) = true := by decide +kernel
def wordsDs : List PyData := [.str (Str.ofString "abc\n"), .str (Str.ofString "\nabc"), .str (Str.ofString "a\nb"), .str (Str.ofString "\n"), .str (Str.ofString ""), .str (Str.ofString "a b"), .str (Str.ofString "aB")]
theorem words_sm : ∀ d ∈ wordsDs, Sm d := by
  have h : wordsDs.all smB = true := by decide +kernel
  exact fun d hd => sm_of (List.all_eq_true.mp h d hd)
theorem words_no : inV (.bl true) (wordsDs.map fun d => V.bl (nameD d)) = false := by decide +kernel
theorem op_c {r : R2} {x : V} {tb : TE} {σ : L2.St} {H : Hp} {Q : VK} (h : tb σ H fun y H2 => r x y H2 Q) : tOp r (tC x) tb σ H Q := h
theorem dqa_b2i {H : Hp} : ∀ bs : List Bool, DqAll H (bs.map fun b => V.int (b2i b)) (bs.map fun b => PyData.int (b2i b))
  | [] => .nil
  | b :: r => .cons (.int _) (dqa_b2i r)
section
variable {P : Program} {w : World} {K : PySem.W.Frag} {mg : Str → Option Value} {base : Heap}

theorem ok_is_tuple {A : Adr} (T : Txt K mg A) : FnOk P w K mg base CX0 1 A.f_is_tuple A.o_is_tuple P_is_tuple (spTup) := by
  refine T.d_is_tuple.F.ok sc_is_tuple (fun vs H Q E h => ?_) (fun cdv A outer s H vs Q E hr h => ?_)
  · obtain ⟨v, d, a, b, rfl, _⟩ := h
    rfl
  · obtain ⟨v, d, a, b, rfl, hd, q⟩ := h
    refine ⟨_, (pss_one (ps_ret (pe_and (pe_callB call_isi (by rfl) T.z_isinstance boot_isinstance (pa_cons (pv 0) (pa_cons (pe_bltn (v := .ty "tuple") (by rfl) T.z_tuple boot_tuple rfl) pa_nil))) (pe_one (pe_chain op_le op_le (pv 1) (pe_callB call_len (by rfl) T.z_len PySem.boot_len (pa_cons (pv 0) pa_nil)) (pv 2)))))), ?_⟩
    refine ⟨v, rfl, _, _, _, _, _, rfl, .ty _, hd.ty, kit_ty (kb_tuple _), _, rfl, ?_⟩
    cases hd with
    | tup h1 h2 =>
      refine ⟨.int a, rfl, _, rfl, _, _, rfl, .inr ⟨_, SqT.of h1, rfl⟩, _, _, rfl, rfl, _, rfl, ite_b (fun e1 => ?_) (fun e1 => ?_)⟩
      · refine ⟨.int b, rfl, _, _, rfl, rfl, q_is ?_ q⟩
        rw [h2.len] at e1 ⊢
        show (decide _ && decide _) = _
        rw [e1, Bool.true_and]
      · refine q_is ?_ q
        rw [h2.len] at e1
        show (decide _ && decide _) = _
        rw [e1, Bool.false_and]
    | _ => exact q
theorem ok_is_name {A : Adr} (T : Txt K mg A) : FnOk P w K mg base CX0 1 A.f_is_name A.o_is_name P_is_name (spP Sm nameD) := by
  refine T.d_is_name.F.ok sc_is_name (fun vs H Q E h => ?_) (fun cdv A outer s H vs Q E hr h => ?_)
  · obtain ⟨v, d, rfl, _⟩ := h
    rfl
  · obtain ⟨v, d, rfl, hd, sm, q⟩ := h
    refine ⟨_, (pss_cons (ps_if (PW.pt (pw_or (pt_not (pt_val (pe_callB call_isi (by rfl) T.z_isinstance boot_isinstance (pa_cons (pv 0) (pa_cons (pe_bltn (v := .ty "str") (by rfl) T.z_str boot_str rfl) pa_nil))))) (pw_or1 (pt_not (pt_chain op_le op_le pe_int (pe_callB call_len (by rfl) T.z_len PySem.boot_len (pa_cons (pv 0) pa_nil)) (pe_glob (v := .int 8) (by rfl) T.g__MAX_LETTERS.choose_spec ⟨_, rfl⟩)))))) (pss_one (ps_ret pe_bl)) pss_nil)
      (pss_one (ps_ret (pe_callB (cr_all rfl) (by rfl) T.z_all boot_all (pa_cons (pe_lc (own := [("letter", 1)]) (g := gName 1) (tt := tYes) (by rfl) sc_is_name.nd (pi_str (pv 0)) (blkOk_by (own := [("letter", 1)]) (N := N_is_name) (sc := defScope s_is_name) (by decide +kernel)) (fun _ _ _ _ _ => pg_name (i := 1) sc_is_name.nd rfl (Or.inl rfl)) (fun _ _ _ _ _ => pts_nil) (fun _ _ _ _ _ => (pe_cmpR op_in_sign (pv 1) (pe_glob (v := .str (Str.ofString "abcdefghijklmnopqrstuvwxyz")) (by rfl) T.g__LETTERS.choose_spec ⟨_, rfl⟩) (by rfl)))) pa_nil))))), ?_⟩
    refine ⟨v, rfl, _, _, _, _, _, rfl, .ty _, hd.ty, kit_ty (kb_str _), _, rfl, ?_⟩
    cases hd with
    | str z =>
      have zl := sm z rfl
      refine ⟨_, rfl, _, _, rfl, ⟨le_line (by omega), rfl⟩, _, _, rfl, rfl, _, rfl, ite_b (fun e1 => ?_) (fun e1 => ?_)⟩
      · refine ⟨_, _, rfl, rfl, _, rfl, ite_b (fun e2 => ?_) (fun e2 => ?_)⟩
        · refine q_is ?_ (q H Ext.rfl')
          show ((decide _ && decide _) && _) = _
          rw [not_t e2, Bool.and_false, Bool.false_and]
        · dsimp only [tRet, tSeq, tIfS, tAsg, tDrop, tCB, tCons, tNil, tCall, tTest, tB, tAnd, tOr, tNot, tAndV, tOrV, tNotV, tIf, tOp, tUn, tC, tTup, tLst, tNext, tSl, tPart, tNoPart, tPar, gName_app, List.map_cons, List.map_nil]
          refine lcS_map letD rfl (by omega) (fun _ => rfl) (fun c H2 R _ r => ⟨_, rfl, c, alpha, rfl, rfl, r⟩) (fun L H2 e hL => ⟨L, _, rfl, SqL.of hL, q_is ?_ (q H2 e)⟩)
          show ((decide _ && decide _) && _) = _
          rw [e1, not_f e2, all_id]
          rfl
      · refine ⟨_, rfl, q_is ?_ (q H Ext.rfl')⟩
        show ((decide _ && decide _) && _) = _
        rw [e1]
        rfl
    | _ => exact q H Ext.rfl'
theorem ok_is_integer {A : Adr} (T : Txt K mg A) : FnOk P w K mg base CX0 1 A.f_is_integer A.o_is_integer P_is_integer (spP0 intD) := by
  refine T.d_is_integer.F.ok sc_is_integer (fun vs H Q E h => ?_) (fun cdv A outer s H vs Q E hr h => ?_)
  · obtain ⟨v, d, rfl, _⟩ := h
    rfl
  · obtain ⟨v, d, rfl, hd, q⟩ := h
    refine ⟨_, (pss_one (ps_ret (pe_and (pe_callB call_isi (by rfl) T.z_isinstance boot_isinstance (pa_cons (pv 0) (pa_cons (pe_bltn (v := .ty "int") (by rfl) T.z_int boot_int rfl) pa_nil))) (pe_and (pe_not (pe_callB call_isi (by rfl) T.z_isinstance boot_isinstance (pa_cons (pv 0) (pa_cons (pe_bltn (v := .ty "bool") (by rfl) T.z_bool boot_bool rfl) pa_nil)))) (pe_one (pe_cmpR op_lt (pe_callB call_abs (by rfl) T.z_abs boot_abs (pa_cons (pv 0) pa_nil)) (pe_glob (v := .int (10 ^ 60)) (by rfl) T.g__TOO_LONG.choose_spec ⟨_, rfl⟩) (nomark _))))))), ?_⟩
    refine ⟨v, rfl, _, _, _, _, _, rfl, .ty _, hd.ty, kit_ty (kb_int _), _, rfl, ?_⟩
    cases hd with
    | int i => exact ⟨_, rfl, _, _, _, _, _, rfl, .ty _, (Dq.ty (.int i)), kit_ty (kb_bool _), _, rfl, _, rfl, _, rfl, i, rfl, _, _, rfl, rfl, q_is (abs_too i).symm q⟩
    | bl b => exact ⟨_, rfl, _, _, _, _, _, rfl, .ty _, (Dq.ty (.bl b)), kit_ty (kb_bool _), _, rfl, _, rfl, q⟩
    | _ => exact q
theorem ok_is_row {A : Adr} (T : Txt K mg A) : FnOk P w K mg base CX0 2 A.f_is_row A.o_is_row P_is_row (spP Any rowD) := by
  refine T.d_is_row.F.ok sc_is_row (fun vs H Q E h => ?_) (fun cdv A outer s H vs Q E hr h => ?_)
  · obtain ⟨v, d, rfl, _⟩ := h
    rfl
  · obtain ⟨v, d, rfl, hd, _, q⟩ := h
    refine ⟨_, (pss_one (ps_ret (pe_and (pe_call (ok_is_tuple T) (hr.mono (by decide)) (by rfl) T.d_is_tuple.g T.d_is_tuple.F.kp T.d_is_tuple.b .nil pass0 (pa_cons (pv 0) (pa_cons pe_int (pa_cons (pe_glob (v := .int 6) (by rfl) T.g_MAX_COLUMNS.choose_spec ⟨_, rfl⟩) pa_nil)))) (pe_one (pe_callB (cr_all rfl) (by rfl) T.z_all boot_all (pa_cons (pe_lc (own := [("entry", 1)]) (g := gName 1) (tt := tYes) (by rfl) sc_is_row.nd (pi_tup (pv 0)) (blkOk_by (own := [("entry", 1)]) (N := N_is_row) (sc := defScope s_is_row) (by decide +kernel)) (fun _ _ _ _ _ => pg_name (i := 1) sc_is_row.nd rfl (Or.inl rfl)) (fun _ _ _ _ _ => pts_nil) (fun _ _ _ _ _ => (pe_call (ok_is_integer T) (hr.mono (by decide)) (by rfl) T.d_is_integer.g T.d_is_integer.F.kp T.d_is_integer.b .nil pass0 (pa_cons (pv 1) pa_nil)))) pa_nil)))))), ?_⟩
    refine ⟨v, rfl, v, d, 1, 6, rfl, hd, _, rfl, ?_⟩
    cases hd with
    | tup h1 h2 =>
      refine ite_b (fun e1 => ?_) (fun e1 => ?_)
      · have hz : _ ≤ 100000 := row_len h2 e1
        dsimp only [tRet, tSeq, tIfS, tAsg, tDrop, tCB, tCons, tNil, tCall, tTest, tB, tAnd, tOr, tNot, tAndV, tOrV, tNotV, tIf, tOp, tUn, tC, tTup, tLst, tNext, tSl, tPart, tNoPart, tPar, gName_app, List.map_cons, List.map_nil]
        refine lcT_bool intD rfl h1 h2 hz (fun _ => rfl) (fun v d H2 R e hd r => ⟨v, rfl, v, d, rfl, hd, r⟩) (fun L H2 n0 e hL => ⟨L, _, rfl, SqL.of hL, q_is ?_ (q H2 e)⟩)
        rw [all_id]
        show (_ && _) = _
        rw [e1, Bool.true_and]
      · refine q_is ?_ (q H Ext.rfl')
        show (_ && _) = _
        rw [e1, Bool.false_and]
    | _ => exact q H Ext.rfl'
theorem ok_is_result {A : Adr} (T : Txt K mg A) : FnOk P w K mg base CX0 2 A.f_is_result A.o_is_result P_is_result (spP Any resD) := by
  refine T.d_is_result.F.ok sc_is_result (fun vs H Q E h => ?_) (fun cdv A outer s H vs Q E hr h => ?_)
  · obtain ⟨v, d, rfl, _⟩ := h
    rfl
  · obtain ⟨v, d, rfl, hd, _, q⟩ := h
    refine ⟨_, (pss_cons (ps_if (pt_not (pt_val (pe_call (ok_is_tuple T) (hr.mono (by decide)) (by rfl) T.d_is_tuple.g T.d_is_tuple.F.kp T.d_is_tuple.b .nil pass0 (pa_cons (pv 0) (pa_cons pe_int (pa_cons (pe_glob (v := .int 5) (by rfl) T.g__MAX_ENTRIES.choose_spec ⟨_, rfl⟩) pa_nil)))))) (pss_one (ps_ret pe_bl)) pss_nil)
      (pss_cons (ps_set (i := 1) sc_is_result.nd rfl (by first | exact Or.inl rfl | exact Or.inr rfl) (pe_and (pe_cmpR op_gt (pe_callB call_len (by rfl) T.z_len PySem.boot_len (pa_cons (pv 0) pa_nil)) pe_int (nomark _)) (pe_one (pe_cmpR op_isN (pe_ix ix_tup (pv 0) (pe_un un_neg pe_int) (fun _ _ => rfl)) pe_non (nomark _)))))
      (pss_cons (ps_set (i := 2) sc_is_result.nd rfl (by first | exact Or.inl rfl | exact Or.inr rfl) (pe_ifExp (pt_val (pv 1)) (pe_slice sl_tupA (pv 0) po_none (po_some (pe_un un_neg pe_int))) (pv 0)))
      (pss_one (ps_ret (pe_callB (cr_all rfl) (by rfl) T.z_all boot_all (pa_cons (pe_lc (own := [("entry", 3)]) (g := gName 3) (tt := tYes) (by rfl) sc_is_result.nd (pi_tup (pv 2)) (blkOk_by (own := [("entry", 3)]) (N := N_is_result) (sc := defScope s_is_result) (by decide +kernel)) (fun _ _ _ _ _ => pg_name (i := 3) sc_is_result.nd rfl (Or.inl rfl)) (fun _ _ _ _ _ => pts_nil) (fun _ _ _ _ _ => (pe_and (pe_call (ok_is_integer T) (hr.mono (by decide)) (by rfl) T.d_is_integer.g T.d_is_integer.F.kp T.d_is_integer.b .nil pass0 (pa_cons (pv 3) pa_nil)) (pe_one (pe_cmpR op_ge (pv 3) pe_int (nomark _)))))) pa_nil))))))), ?_⟩
    refine ⟨v, rfl, v, d, 1, 5, rfl, hd, _, rfl, ?_⟩
    cases hd with
    | @tup a xs ds h1 h2 =>
      refine ite_b (fun e1 => ?_) (fun e1 => ?_)
      · refine q_is ?_ (q H Ext.rfl')
        show (_ && _) = _
        rw [not_t e1, Bool.false_and]
      · have e1 := not_f e1
        have hz : xs.length ≤ 100000 := by
          have := tup_len h2 e1
          omega
        have res : ∀ b : Bool, (decide (1 < (ds.length : Int)) && lastNone ds) = b → resD (.tuple ds) = (if b = true then ds.dropLast else ds).all posD := fun b hb => by
          show (_ && _) = _
          rw [e1, Bool.true_and, given_all hb]
        -- has_gap
        refine ⟨_, rfl, _, _, rfl, .inr ⟨_, SqT.of h1, rfl⟩, _, _, rfl, rfl, _, rfl, ite_b (fun e2 => ?_) (fun e2 => ?_)⟩
        · rw [h2.len] at e2
          have l1 := lt_true e2
          obtain ⟨z, dz, hat, hlast, hz2⟩ := last_dq h2 (by omega)
          refine ⟨_, rfl, 1, rfl, a, xs, -1, z, rfl, rfl, SqT.of h1, hat, rfl, ?_⟩
          have ez := noneD_iff hz2
          have gp : (decide (1 < (ds.length : Int)) && lastNone ds) = noneD dz := by
            unfold lastNone
            rw [e2, hlast, Bool.true_and]
          refine ⟨_, rfl, _, rfl, ite_b (fun e3 => ?_) (fun e3 => ?_)⟩
          · rw [ez] at e3
            refine ⟨_, rfl, 1, rfl, -1, rfl, a, xs, rfl, SqT.of h1, fun w => ?_, fun _ p np => ?_⟩
            · have lx := h2.len
              rw [sIx_back _ _ (by omega)] at w
              omega
            · dsimp only [tRet, tSeq, tIfS, tAsg, tDrop, tCB, tCons, tNil, tCall, tTest, tB, tAnd, tOr, tNot, tAndV, tOrV, tNotV, tIf, tOp, tUn, tC, tTup, tLst, tNext, tSl, tPart, tNoPart, tPar, gName_app, List.map_cons, List.map_nil]
              rw [cut_back xs (by have := h2.len; omega)]
              refine lcT_bool posD rfl upd_same ((dq_dropLast h2).ext (Ext.nw np)) (by rw [List.length_dropLast]; omega) (fun _ => rfl) (fun v d H2 R e hd r => ⟨v, rfl, v, d, rfl, hd, _, rfl, by
                cases hd with
                | int i => exact ite_b (fun e => ⟨_, rfl, i, 1, rfl, rfl, q_is (pos_t e).symm r⟩) (fun e => q_is (pos_f e).symm r)
                | _ => exact r⟩)
                (fun L H2 n0 e hL => ⟨L, _, rfl, SqL.of hL, q_is ?_ (q H2 ((Ext.nw np).tr e))⟩)
              rw [all_id, res _ gp, e3]
              rfl
          · rw [ez] at e3
            dsimp only [tRet, tSeq, tIfS, tAsg, tDrop, tCB, tCons, tNil, tCall, tTest, tB, tAnd, tOr, tNot, tAndV, tOrV, tNotV, tIf, tOp, tUn, tC, tTup, tLst, tNext, tSl, tPart, tNoPart, tPar, gName_app, List.map_cons, List.map_nil]
            refine ⟨_, rfl, ?_⟩
            refine lcT_bool posD rfl h1 h2 hz (fun _ => rfl) (fun v d H2 R e hd r => ⟨v, rfl, v, d, rfl, hd, _, rfl, by
                cases hd with
                | int i => exact ite_b (fun e => ⟨_, rfl, i, 1, rfl, rfl, q_is (pos_t e).symm r⟩) (fun e => q_is (pos_f e).symm r)
                | _ => exact r⟩)
              (fun L H2 n0 e hL => ⟨L, _, rfl, SqL.of hL, q_is ?_ (q H2 e)⟩)
            rw [all_id, res _ gp, e3]
            rfl
        · rw [h2.len] at e2
          have gp : (decide (1 < (ds.length : Int)) && lastNone ds) = false := by rw [e2, Bool.false_and]
          refine ⟨_, rfl, _, rfl, _, rfl, ?_⟩
          dsimp only [tRet, tSeq, tIfS, tAsg, tDrop, tCB, tCons, tNil, tCall, tTest, tB, tAnd, tOr, tNot, tAndV, tOrV, tNotV, tIf, tOp, tUn, tC, tTup, tLst, tNext, tSl, tPart, tNoPart, tPar, gName_app, List.map_cons, List.map_nil]
          refine lcT_bool posD rfl h1 h2 hz (fun _ => rfl) (fun v d H2 R e hd r => ⟨v, rfl, v, d, rfl, hd, _, rfl, by
                cases hd with
                | int i => exact ite_b (fun e => ⟨_, rfl, i, 1, rfl, rfl, q_is (pos_t e).symm r⟩) (fun e => q_is (pos_f e).symm r)
                | _ => exact r⟩)
            (fun L H2 n0 e hL => ⟨L, _, rfl, SqL.of hL, q_is ?_ (q H2 e)⟩)
          rw [all_id, res _ gp]
          rfl
    | _ => exact q H Ext.rfl'
theorem ok_dice {A : Adr} (T : Txt K mg A) : FnOk P w K mg base CX0 1 A.f_dice A.o_dice P_dice (spDice K) := by
  refine T.d_dice.F.ok sc_dice (fun vs H Q E h => ?_) (fun cdv A outer s H vs Q E hr h => ?_)
  · obtain ⟨l, ns, i, rfl, _⟩ := h
    rfl
  · obtain ⟨l, ns, i, rfl, hS, hi, q⟩ := h
    refine ⟨_, (pss_cons (ps_set (i := 2) sc_dice.nd rfl (by first | exact Or.inl rfl | exact Or.inr rfl) (pe_ifExp (pt_cmpR op_lt (pv 1) (pe_callB call_len (by rfl) T.z_len PySem.boot_len (pa_cons (pv 0) pa_nil)) (nomark _)) (pe_ix ix_list (pv 0) (pv 1) (fun _ _ => rfl)) (pe_op op_add (pe_op op_mulW pe_int (pv 1)) pe_int)))
      (pss_cons (ps_set (i := 3) sc_dice.nd rfl (by first | exact Or.inl rfl | exact Or.inr rfl) (pe_op op_mod (pe_callTy call_int1 (by rfl) T.z_int boot_int (pa_cons (pe_callB call_abs (by rfl) T.z_abs boot_abs (pa_cons (pv 2) pa_nil)) pa_nil)) (pe_op op_powW (pe_op op_powW pe_int pe_int) pe_int)))
      (pss_cons (ps_set (i := 4) sc_dice.nd rfl (by first | exact Or.inl rfl | exact Or.inr rfl) (pe_op op_mulW (pe_op op_mod (pe_callTy call_int1 (by rfl) T.z_int boot_int (pa_cons (pv 3) pa_nil)) pe_int) pe_int))
      (pss_cons (ps_set (i := 4) sc_dice.nd rfl (by first | exact Or.inl rfl | exact Or.inr rfl) (pe_op op_add (pe_op op_add (pe_op op_add (pv 4) (pe_op op_mulW pe_int (pv 1))) (pe_op op_mulW pe_int (pe_callTy call_int1 (by rfl) T.z_int boot_int (pa_cons (pe_cmpR op_lt (pv 2) pe_int (nomark _)) pa_nil)))) pe_int))
      (pss_one (ps_ret (pe_lst (pa_cons (pe_callB (call_max2 rfl) (by rfl) T.z_max boot_max (pa_cons pe_int (pa_cons (pe_op op_sub (pv 3) (pe_op op_powW pe_int pe_int)) pa_nil))) (pa_cons (pe_op op_mod (pe_callTy call_int1 (by rfl) T.z_int boot_int (pa_cons (pv 4) pa_nil)) pe_int) (pa_cons pe_int pa_nil)))))))))), ?_⟩
    refine ⟨_, rfl, _, rfl, _, _, rfl, .inl ⟨_, hS, rfl⟩, _, _, rfl, rfl, _, rfl, if_cell rfl rfl hS hi fun c => ?_⟩
    -- whole, seed
    refine ⟨_, rfl, c, rfl, .inl ⟨_, rfl, _, _, rfl, rfl, ⟨by decide, by decide +kernel⟩, _, _, rfl, rfl, ⟨by decide, by decide +kernel⟩, _, _, rfl, rfl, (show (0 : Int) < (10 ^ Int.toNat 60) ^ Int.toNat 10 by decide +kernel), ?_⟩⟩
    refine ⟨_, rfl, .inl ⟨_, rfl, _, _, rfl, rfl, (show (0 : Int) < 2305843009213693951 by decide), _, _, rfl, rfl, mul_ok 62 62 (mod_lt _ 62 (by decide) (by decide)) (by decide) (by decide), ?_⟩⟩
    refine ⟨_, rfl, _, rfl, _, _, rfl, rfl, mul_ok 10 10 (by decide) (by omega) (by decide), _, _, rfl, rfl, ?_⟩
    refine ⟨_, rfl, _, _, rfl, rfl, .inr ⟨_, rfl, _, _, rfl, rfl, mul_ok 10 1 (by decide) (b2i_lt _) (by decide), _, _, rfl, rfl, _, _, rfl, rfl, ?_⟩⟩
    -- the list
    refine ⟨_, rfl, _, _, rfl, rfl, ⟨by decide, by decide +kernel⟩, _, _, rfl, rfl, _, _, rfl, ?_⟩
    refine ⟨_, rfl, .inl ⟨_, rfl, _, _, rfl, rfl, (show (0 : Int) < 18014398509481951 by decide), le_line (by show 3 ≤ 100000; decide), fun p hp => ?_⟩⟩
    exact q p _ hp (Ext.nw hp) ⟨_, _, _, upd_same⟩
theorem ok_roll {A : Adr} (T : Txt K mg A) : FnOk P w K mg base CX0 1 A.f_roll A.o_roll P_roll (spRoll) := by
  refine T.d_roll.F.ok sc_roll (fun vs H Q E h => ?_) (fun cdv A outer s H vs Q E hr h => ?_)
  · obtain ⟨D, m, rfl, _⟩ := h
    rfl
  · obtain ⟨D, m, rfl, ⟨x, y, z, hD⟩, m0, mb, q⟩ := h
    refine ⟨_, (pss_cons (ps_if (pt_cmpR op_gt (pe_ix ix_list (pv 0) pe_int (fun _ _ => rfl)) pe_int (nomark _)) (pss_cons (ps_set (i := 2) sc_roll.nd rfl (by first | exact Or.inl rfl | exact Or.inr rfl) (pe_op op_mod (pe_callTy call_int1 (by rfl) T.z_int boot_int (pa_cons (pe_ix ix_list (pv 0) pe_int (fun _ _ => rfl)) pa_nil)) (pv 1)))
      (pss_cons (ps_asg (pe_op op_fdivW (pe_ix ix_list (pv 0) pe_int (fun _ _ => rfl)) (pv 1)) (pg_sub (pv 0) pe_int set_list))
      (pss_one (ps_ret (pv 2))))) pss_nil)
      (pss_cons (ps_asg (pe_op op_add (pe_ix ix_list (pv 0) pe_int (fun _ _ => rfl)) pe_int) (pg_sub (pv 0) pe_int set_list))
      (pss_cons (ps_set (i := 3) sc_roll.nd rfl (by first | exact Or.inl rfl | exact Or.inr rfl) (pe_op op_mod (pe_callTy call_int1 (by rfl) T.z_int boot_int (pa_cons (pe_op op_add (pe_ix ix_list (pv 0) pe_int (fun _ _ => rfl)) (pe_op op_mul pe_int (pe_ix ix_list (pv 0) pe_int (fun _ _ => rfl)))) pa_nil)) pe_int))
      (pss_cons (ps_set (i := 4) sc_roll.nd rfl (by first | exact Or.inl rfl | exact Or.inr rfl) (pe_op op_mod (pe_callTy call_int1 (by rfl) T.z_int boot_int (pa_cons (pe_op op_add (pe_op op_mulW (pv 3) (pv 3)) (pe_op op_mul pe_int (pe_ix ix_list (pv 0) pe_int (fun _ _ => rfl)))) pa_nil)) pe_int))
      (pss_one (ps_ret (pe_op op_mod (pe_callTy call_int1 (by rfl) T.z_int boot_int (pa_cons (pe_op op_fdivW (pe_op op_mod (pe_callTy call_int1 (by rfl) T.z_int boot_int (pa_cons (pe_op op_mulW (pv 4) (pv 3)) pa_nil)) pe_int) pe_int) pa_nil)) (pv 1)))))))), ?_⟩
    have hS : SqL K H D [.int x, .int y, .int z] := SqL.of hD
    have dc : Dc H D := ⟨x, y, z, hD⟩
    refine ⟨_, rfl, _, _, _, _, rfl, rfl, hS, (atI_nat (j := 0) rfl), _, _, rfl, rfl, _, rfl, ite_b (fun _ => ?_) (fun _ => ?_)⟩
    · refine ⟨_, rfl, _, _, _, _, rfl, rfl, hS, (atI_nat (j := 0) rfl), .inl ⟨_, rfl, _, rfl, _, _, rfl, rfl, m0, ?_⟩⟩
      refine ⟨_, rfl, _, _, _, _, rfl, rfl, hS, (atI_nat (j := 0) rfl), _, rfl, _, _, rfl, rfl, wide_div m0 mb (by decide) (by decide), ?_⟩
      refine ⟨_, rfl, D, _, 0, 0, rfl, rfl, hD, rfl, ?_⟩
      exact ⟨_, rfl, q _ _ (Int.emod_nonneg _ (by omega)) (Int.emod_lt_of_pos _ m0) ((Ge.rfl' dc).roll)⟩
    · refine ⟨_, rfl, _, _, _, _, rfl, rfl, hS, (atI_nat (j := 2) rfl), _, _, rfl, rfl, ?_⟩
      refine ⟨_, rfl, D, _, 2, 2, rfl, rfl, hD, rfl, ?_⟩
      have hT : ∀ u : Int, SqL K (upd H D (.lst ([V.int x, V.int y, V.int z].set 2 (.int u)))) D [.int x, .int y, .int u] := fun u => SqL.of upd_same
      refine ⟨_, rfl, _, _, _, _, rfl, rfl, hT _, (atI_nat (j := 1) rfl), _, rfl, _, _, _, _, rfl, rfl, hT _, (atI_nat (j := 2) rfl), _, _, rfl, rfl, .inl ⟨by decide, by decide⟩, _, _, rfl, rfl, .inl ⟨_, rfl, _, _, rfl, rfl, (show (0 : Int) < 9007199254740881 by decide), ?_⟩⟩
      have b1 : ∀ u : Int, (u % 9007199254740881).natAbs < 2 ^ 54 := fun u => mod_lt u 54 (by decide) (by decide)
      have b2 : ∀ u : Int, (u % 4611686018427387847).natAbs < 2 ^ 63 := fun u => mod_lt u 63 (by decide) (by decide)
      refine ⟨_, rfl, _, rfl, _, _, rfl, rfl, mul_ok 54 54 (b1 _) (b1 _) (by decide), _, rfl, _, _, _, _, rfl, rfl, hT _, (atI_nat (j := 2) rfl), _, _, rfl, rfl, .inl ⟨by decide, by decide⟩, _, _, rfl, rfl, .inl ⟨_, rfl, _, _, rfl, rfl, (show (0 : Int) < 4611686018427387847 by decide), ?_⟩⟩
      refine ⟨_, rfl, _, rfl, _, _, rfl, rfl, mul_ok 63 54 (b2 _) (b1 _) (by decide), .inl ⟨_, rfl, _, _, rfl, rfl, (show (0 : Int) < 1125899906842597 by decide), _, _, rfl, rfl, wide_div (b := 20) (by decide) (by decide) (by decide) (by decide), .inl ⟨_, rfl, _, rfl, _, _, rfl, rfl, m0, ?_⟩⟩⟩
      exact q _ _ (Int.emod_nonneg _ (by omega)) (Int.emod_lt_of_pos _ m0) ((Ge.rfl' dc).roll)
theorem ok_pick {A : Adr} (T : Txt K mg A) : FnOk P w K mg base CX0 2 A.f_pick A.o_pick P_pick (spPick) := by
  refine T.d_pick.F.ok sc_pick (fun vs H Q E h => ?_) (fun cdv A outer s H vs Q E hr h => ?_)
  · obtain ⟨D, l, xs, rfl, _⟩ := h
    rfl
  · obtain ⟨D, l, xs, rfl, dc, hl, nl, ne, hz, q⟩ := h
    refine ⟨_, (pss_one (ps_ret (pe_ix ix_list (pv 1) (pe_call (ok_roll T) (hr.mono (by decide)) (by rfl) T.d_roll.g T.d_roll.F.kp T.d_roll.b .nil pass0 (pa_cons (pv 0) (pa_cons (pe_callB call_len (by rfl) T.z_len PySem.boot_len (pa_cons (pv 1) pa_nil)) pa_nil))) (fun _ _ => rfl)))), ?_⟩
    have n0 : 0 < xs.length := List.length_pos_iff.mpr ne
    refine ⟨_, rfl, _, rfl, _, rfl, _, _, rfl, .inl ⟨_, SqL.of hl, rfl⟩, D, _, rfl, dc, by omega, ?_, fun r H2 r0 r1 g => ?_⟩
    · have : (2 : Nat) ^ 20 ≤ 2 ^ 8000 := Nat.pow_le_pow_right (by decide) (by decide)
      omega
    · obtain ⟨v, hv, hat⟩ := vmem r0 r1
      exact ⟨l, _, _, v, rfl, rfl, SqL.of (g.kp _ _ nl hl), hat, q v H2 hv g⟩
theorem ok_judge_integer {A : Adr} (T : Txt K mg A) : FnOk P w K mg base CX0 1 A.f_judge_integer A.o_judge_integer P_judge_integer (spP0 intD) := by
  refine T.d_judge_integer.F.ok sc_judge_integer (fun vs H Q E h => ?_) (fun cdv A outer s H vs Q E hr h => ?_)
  · obtain ⟨v, d, rfl, _⟩ := h
    rfl
  · obtain ⟨v, d, rfl, hd, q⟩ := h
    refine ⟨_, (pss_cons (ps_if (PW.pt (pw_or (pt_not (pt_val (pe_callB call_isi (by rfl) T.z_isinstance boot_isinstance (pa_cons (pv 0) (pa_cons (pe_bltn (v := .ty "int") (by rfl) T.z_int boot_int rfl) pa_nil))))) (pw_or1 (pt_val (pe_callB call_isi (by rfl) T.z_isinstance boot_isinstance (pa_cons (pv 0) (pa_cons (pe_bltn (v := .ty "bool") (by rfl) T.z_bool boot_bool rfl) pa_nil))))))) (pss_one (ps_ret pe_bl)) pss_nil)
      (pss_one (ps_ret (pe_and (pe_cmpR op_lt (pe_op op_sub pe_int (pe_op op_powW pe_int pe_int)) (pv 0) (nomark _)) (pe_one (pe_cmpR op_lt (pv 0) (pe_op op_powW pe_int pe_int) (nomark _))))))), ?_⟩
    refine ⟨v, rfl, _, _, _, _, _, rfl, .ty _, hd.ty, kit_ty (kb_int _), _, rfl, ?_⟩
    cases hd with
    | int i =>
      refine ⟨_, rfl, _, _, _, _, _, rfl, .ty _, Dq.ty (.int i), kit_ty (kb_bool _), _, rfl, ?_⟩
      refine ⟨_, _, rfl, rfl, ⟨by decide, by decide +kernel⟩, _, _, rfl, rfl, _, rfl, _, _, rfl, rfl, _, rfl, ite_b (fun e => ?_) (fun e => ?_)⟩
      · refine ⟨_, rfl, _, _, rfl, rfl, ⟨by decide, by decide +kernel⟩, _, _, rfl, rfl, q_is ?_ q⟩
        show (decide _ && decide _) = _
        have e2 : decide (0 - TOO < i) = true := e
        rw [e2, Bool.true_and]
        rfl
      · refine q_is ?_ q
        show (decide _ && decide _) = _
        have e2 : decide (0 - TOO < i) = false := e
        rw [e2, Bool.false_and]
    | bl b => exact ⟨_, rfl, _, _, _, _, _, rfl, .ty _, Dq.ty (.bl b), kit_ty (kb_bool _), _, rfl, q⟩
    | _ => exact q
theorem ok_judge_name {A : Adr} (T : Txt K mg A) : FnOk P w K mg base CX0 1 A.f_judge_name A.o_judge_name P_judge_name (spP Sm nameD) := by
  refine T.d_judge_name.F.ok sc_judge_name (fun vs H Q E h => ?_) (fun cdv A outer s H vs Q E hr h => ?_)
  · obtain ⟨v, d, rfl, _⟩ := h
    rfl
  · obtain ⟨v, d, rfl, hd, sm, q⟩ := h
    refine ⟨_, (pss_cons (ps_if (PW.pt (pw_or (pt_not (pt_val (pe_callB call_isi (by rfl) T.z_isinstance boot_isinstance (pa_cons (pv 0) (pa_cons (pe_bltn (v := .ty "str") (by rfl) T.z_str boot_str rfl) pa_nil))))) (pw_or (pt_cmpR op_lt (pe_callB call_len (by rfl) T.z_len PySem.boot_len (pa_cons (pv 0) pa_nil)) pe_int (nomark _)) (pw_or1 (pt_cmpR op_gt (pe_callB call_len (by rfl) T.z_len PySem.boot_len (pa_cons (pv 0) pa_nil)) pe_int (nomark _)))))) (pss_one (ps_ret pe_bl)) pss_nil)
      (pss_one (ps_ret (pe_cmpR (op_eqE hr.units0) (pe_lc (own := [("_law_sign", 1)]) (g := gName 1) (by rfl) sc_judge_name.nd (pi_str (pv 0)) (blkOk_by (own := [("_law_sign", 1)]) (N := N_judge_name) (sc := defScope s_judge_name) (by decide +kernel)) (fun _ _ _ _ _ => pg_name (i := 1) sc_judge_name.nd rfl (Or.inl rfl)) (fun _ _ _ _ _ => pts_one (pt_cmpR op_notIn_sign (pv 1) pe_str (by rfl))) (fun _ _ _ _ _ => (pv 1))) (pe_lst pa_nil) (nomark _))))), ?_⟩
    refine ⟨v, rfl, _, _, _, _, _, rfl, .ty _, hd.ty, kit_ty (kb_str _), _, rfl, ?_⟩
    cases hd with
    | str z =>
      have zl := sm z rfl
      refine ⟨_, rfl, _, _, rfl, ⟨le_line (by omega), rfl⟩, _, _, rfl, rfl, _, rfl, ite_b (fun e1 => ?_) (fun e1 => ?_)⟩
      · refine q_is ?_ (q H Ext.rfl')
        show ((decide _ && decide _) && _) = _
        rw [decide_eq_false (by have := of_decide_eq_true e1; omega), Bool.false_and, Bool.false_and]
      · refine ⟨_, rfl, _, _, rfl, ⟨le_line (by omega), rfl⟩, _, _, rfl, rfl, _, rfl, ite_b (fun e2 => ?_) (fun e2 => ?_)⟩
        · refine q_is ?_ (q H Ext.rfl')
          show ((decide _ && decide _) && _) = _
          rw [decide_eq_false (show ¬ ((z.length : Int) ≤ 8) by have := of_decide_eq_true e2; omega), Bool.and_false, Bool.false_and]
        · dsimp only [tRet, tSeq, tIfS, tAsg, tDrop, tCB, tCons, tNil, tCall, tTest, tB, tAnd, tOr, tNot, tAndV, tOrV, tNotV, tIf, tOp, tUn, tC, tTup, tLst, tNext, tSl, tPart, tNoPart, tPar, gName_app, List.map_cons, List.map_nil]
          refine lcS_filter (by show 1 < 2; decide) letD rfl (by omega) (fun _ => rfl) (fun c H2 R _ r => ⟨_, rfl, c, alpha, rfl, rfl, _, rfl, r⟩) (fun L H2 acc e hL hb => ?_)
          refine ⟨Nat.zero_le _, fun p hp => ⟨L, p, acc, rfl, rfl, SqL.of (Ext.nw hp _ _ hL), SqL.of upd_same, q_is ?_ (q _ (e.tr (Ext.nw hp)))⟩⟩
          show ((decide _ && decide _) && _) = _
          rw [decide_eq_true (show (1 : Int) ≤ (z.length : Int) by have := of_decide_eq_false e1; omega), decide_eq_true (show (z.length : Int) ≤ 8 by have := of_decide_eq_false e2; omega), hb]
          rfl
    | _ => exact q H Ext.rfl'
theorem ok_judge_row {A : Adr} (T : Txt K mg A) : FnOk P w K mg base CX0 2 A.f_judge_row A.o_judge_row P_judge_row (spP Any rowD) := by
  refine T.d_judge_row.F.ok sc_judge_row (fun vs H Q E h => ?_) (fun cdv A outer s H vs Q E hr h => ?_)
  · obtain ⟨v, d, rfl, _⟩ := h
    rfl
  · obtain ⟨v, d, rfl, hd, _, q⟩ := h
    refine ⟨_, (pss_cons (ps_if (PW.pt (pw_or (pt_not (pt_val (pe_callB call_isi (by rfl) T.z_isinstance boot_isinstance (pa_cons (pv 0) (pa_cons (pe_bltn (v := .ty "tuple") (by rfl) T.z_tuple boot_tuple rfl) pa_nil))))) (pw_or (pt_cmpR op_lt (pe_callB call_len (by rfl) T.z_len PySem.boot_len (pa_cons (pv 0) pa_nil)) pe_int (nomark _)) (pw_or1 (pt_cmpR op_gt (pe_callB call_len (by rfl) T.z_len PySem.boot_len (pa_cons (pv 0) pa_nil)) pe_int (nomark _)))))) (pss_one (ps_ret pe_bl)) pss_nil)
      (pss_one (ps_ret (pe_cmpR (op_eqE hr.units0) (pe_lc (own := [("_law_one", 1)]) (g := gName 1) (by rfl) sc_judge_row.nd (pi_tup (pv 0)) (blkOk_by (own := [("_law_one", 1)]) (N := N_judge_row) (sc := defScope s_judge_row) (by decide +kernel)) (fun _ _ _ _ _ => pg_name (i := 1) sc_judge_row.nd rfl (Or.inl rfl)) (fun _ _ _ _ _ => pts_one (pt_not (pt_val (pe_call (ok_judge_integer T) (hr.mono (by decide)) (by rfl) T.d_judge_integer.g T.d_judge_integer.F.kp T.d_judge_integer.b .nil pass0 (pa_cons (pv 1) pa_nil))))) (fun _ _ _ _ _ => (pv 1))) (pe_lst pa_nil) (nomark _))))), ?_⟩
    refine ⟨v, rfl, _, _, _, _, _, rfl, .ty _, hd.ty, kit_ty (kb_tuple _), _, rfl, ?_⟩
    cases hd with
    | @tup a xs ds h1 h2 =>
      have lx := h2.len
      refine ⟨_, rfl, _, _, rfl, .inr ⟨_, SqT.of h1, rfl⟩, _, _, rfl, rfl, _, rfl, ite_b (fun e1 => ?_) (fun e1 => ?_)⟩
      · refine q_is ?_ (q H Ext.rfl')
        show ((decide _ && decide _) && _) = _
        rw [decide_eq_false (by have := of_decide_eq_true e1; omega), Bool.false_and, Bool.false_and]
      · refine ⟨_, rfl, _, _, rfl, .inr ⟨_, SqT.of h1, rfl⟩, _, _, rfl, rfl, _, rfl, ite_b (fun e2 => ?_) (fun e2 => ?_)⟩
        · refine q_is ?_ (q H Ext.rfl')
          show ((decide _ && decide _) && _) = _
          rw [decide_eq_false (show ¬ ((ds.length : Int) ≤ 6) by have := of_decide_eq_true e2; omega), Bool.and_false, Bool.false_and]
        · have l6 := of_decide_eq_false e2
          dsimp only [tRet, tSeq, tIfS, tAsg, tDrop, tCB, tCons, tNil, tCall, tTest, tB, tAnd, tOr, tNot, tAndV, tOrV, tNotV, tIf, tOp, tUn, tC, tTup, tLst, tNext, tSl, tPart, tNoPart, tPar, gName_app, List.map_cons, List.map_nil]
          refine lcT_filter (by show 1 < 2; decide) intD rfl h1 h2 (by omega) (fun _ => rfl) (fun v d H2 R e hd r => ⟨v, rfl, v, d, rfl, hd, _, rfl, r H2 Ext.rfl'⟩) (fun L H2 acc _ e hL hb => ?_)
          refine ⟨Nat.zero_le _, fun p hp => ⟨L, p, acc, rfl, rfl, SqL.of (Ext.nw hp _ _ hL), SqL.of upd_same, q_is ?_ (q _ (e.tr (Ext.nw hp)))⟩⟩
          show ((decide _ && decide _) && _) = _
          rw [decide_eq_true (show (1 : Int) ≤ (ds.length : Int) by have := of_decide_eq_false e1; omega), decide_eq_true (show (ds.length : Int) ≤ 6 by omega), hb]
          rfl
    | _ => exact q H Ext.rfl'
theorem ok_judge_result {A : Adr} (T : Txt K mg A) : FnOk P w K mg base CX0 2 A.f_judge_result A.o_judge_result P_judge_result (spP Any resD) := by
  refine T.d_judge_result.F.ok sc_judge_result (fun vs H Q E h => ?_) (fun cdv A outer s H vs Q E hr h => ?_)
  · obtain ⟨v, d, rfl, _⟩ := h
    rfl
  · obtain ⟨v, d, rfl, hd, _, q⟩ := h
    refine ⟨_, (pss_cons (ps_if (PW.pt (pw_or (pt_not (pt_val (pe_callB call_isi (by rfl) T.z_isinstance boot_isinstance (pa_cons (pv 0) (pa_cons (pe_bltn (v := .ty "tuple") (by rfl) T.z_tuple boot_tuple rfl) pa_nil))))) (pw_or (pt_cmpR op_lt (pe_callB call_len (by rfl) T.z_len PySem.boot_len (pa_cons (pv 0) pa_nil)) pe_int (nomark _)) (pw_or1 (pt_cmpR op_gt (pe_callB call_len (by rfl) T.z_len PySem.boot_len (pa_cons (pv 0) pa_nil)) pe_int (nomark _)))))) (pss_one (ps_ret pe_bl)) pss_nil)
      (pss_cons (ps_for PassesOwn.never rfl (pi_enumT (by rfl) T.z_enumerate (pa_cons (pv 0) pa_nil)) (pg_tup (by rfl) (pgs_cons (pg_name (i := 1) sc_judge_result.nd rfl (by first | exact Or.inl rfl | exact Or.inr rfl)) (pgs_cons (pg_name (i := 2) sc_judge_result.nd rfl (by first | exact Or.inl rfl | exact Or.inr rfl)) pgs_nil))) (pss_cons (ps_set (i := 3) sc_judge_result.nd rfl (by first | exact Or.inl rfl | exact Or.inr rfl) (pe_and (pe_cmpR op_isN (pv 2) pe_non (nomark _)) (pe_and (pe_cmpR op_gt (pv 1) pe_int (nomark _)) (pe_one (pe_cmpR op_eq (pv 1) (pe_op op_sub (pe_callB call_len (by rfl) T.z_len PySem.boot_len (pa_cons (pv 0) pa_nil)) pe_int) (nomark _))))))
      (pss_one (ps_if (PW.pt (pw_and (pt_not (pt_val (pv 3))) (pw_and1 (PW.pt (pw_or (pt_not (pt_val (pe_call (ok_judge_integer T) (hr.mono (by decide)) (by rfl) T.d_judge_integer.g T.d_judge_integer.F.kp T.d_judge_integer.b .nil pass0 (pa_cons (pv 2) pa_nil)))) (pw_or1 (pt_cmpR op_lt (pv 2) pe_int (nomark _)))))))) (pss_one (ps_ret pe_bl)) pss_nil))))
      (pss_one (ps_ret pe_bl)))), ?_⟩
    refine ⟨v, rfl, _, _, _, _, _, rfl, .ty _, hd.ty, kit_ty (kb_tuple _), _, rfl, ?_⟩
    cases hd with
    | @tup a xs ds h1 h2 =>
      have lx := h2.len
      refine ⟨_, rfl, _, _, rfl, .inr ⟨_, SqT.of h1, rfl⟩, _, _, rfl, rfl, _, rfl, ite_b (fun e1 => ?_) (fun e1 => ?_)⟩
      · refine q_is ?_ (q H Ext.rfl')
        show ((decide _ && decide _) && _) = _
        rw [decide_eq_false (by have := of_decide_eq_true e1; omega), Bool.false_and, Bool.false_and]
      · refine ⟨_, rfl, _, _, rfl, .inr ⟨_, SqT.of h1, rfl⟩, _, _, rfl, rfl, _, rfl, ite_b (fun e2 => ?_) (fun e2 => ?_)⟩
        · refine q_is ?_ (q H Ext.rfl')
          show ((decide _ && decide _) && _) = _
          rw [decide_eq_false (show ¬ ((ds.length : Int) ≤ 5) by have := of_decide_eq_true e2; omega), Bool.and_false, Bool.false_and]
        · have l1 := of_decide_eq_false e1
          have l5 := of_decide_eq_false e2
          have sz : resD (.tuple ds) = okFrom ds 0 ds := by
            show ((decide _ && decide _) && _) = _
            rw [decide_eq_true (show (1 : Int) ≤ (ds.length : Int) by omega), decide_eq_true (show (ds.length : Int) ≤ 5 by omega)]
            rfl
          refine ⟨_, rfl, a, xs, rfl, SqT.of h1, for_it walk_enumT (fun i σ H2 => ∃ y1 y2 y3, σ = [some (.ref a), y1, y2, y3] ∧ Ext H H2 ∧ okFrom ds 0 (ds.take i) = true)
            ⟨none, none, none, rfl, Ext.rfl', by rw [List.take_zero]; rfl⟩ (fun i σ H2 _ p => by obtain ⟨_, _, _, _, e, _⟩ := p; exact SqT.of (e _ _ h1)) (fun i x σ H2 H3 hi p y => ?_) (fun σ H2 p => ?_)⟩
          · obtain ⟨y1, y2, y3, rfl, e, hb⟩ := p
            obtain ⟨T1, x1, x2, rfl, nT, rfl, f1, f2⟩ := y
            cases f1
            obtain ⟨d, hd, hq⟩ := h2.at f2
            have e3 : Ext H (upd H2 T1 (.tup [.int (i : Nat), x2])) := e.tr (Ext.nw nT)
            have hq3 := hq.ext e3
            refine ⟨T1, _, rfl, SqT.of upd_same, rfl, .int (i : Nat), [x2], rfl, x2, [], rfl, rfl, ?_⟩
            have fin : (gapAt ds i d || posD d) = false → resD (.tuple ds) = false := fun z => by rw [sz, ok_cut hd z]
            have go : (gapAt ds i d || posD d) = true → okFrom ds 0 (ds.take (i + 1)) = true := fun z => by rw [ok_step hd, hb, z] <;> rfl
            dsimp only [tRet, tSeq, tAsg, tIfS, tNext, gName_app]
            refine andV_b (noneD d) (decide ((0 : Int) < (i : Int)) && decide ((i : Int) = (ds.length : Int) - 1)) (fun R r => ⟨x2, rfl, rfl, by rw [noneD_iff hq]; exact r⟩)
              (fun _ R r => andV_b (decide ((0 : Int) < (i : Int))) (decide ((i : Int) = (ds.length : Int) - 1)) (fun R r => ⟨_, rfl, _, _, rfl, rfl, r⟩) (fun _ R r => ?_) r) ?_
            · refine ⟨_, rfl, _, rfl, _, _, rfl, .inr ⟨_, SqT.of (e3 _ _ h1), rfl⟩, _, _, rfl, rfl, rfl, q_is ?_ r⟩
              rw [lx]
              by_cases z : (i : Int) = (ds.length : Int) - 1
              · rw [decide_eq_true z, decide_eq_true (by rw [z])]
              · rw [decide_eq_false z, decide_eq_false (fun w => z (V.int.inj w))]
            · refine ⟨_, rfl, _, rfl, ite_b (fun g => ?_) (fun g => ?_)⟩
              · have g : gapAt ds i d = false := not_t g
                refine ⟨_, rfl, x2, d, rfl, hq3, _, rfl, ite_b (fun z => ?_) (fun z => ?_)⟩
                · refine q_is ?_ (q _ e3)
                  refine fin ?_
                  rw [g, Bool.false_or]
                  cases hq with
                  | int n => exact (pos_f (not_t z)).symm
                  | _ => rfl
                · have z := not_f z
                  cases hq with
                  | int n =>
                    refine ⟨_, rfl, n, 1, rfl, rfl, _, rfl, ite_b (fun w => ?_) (fun w => ?_)⟩
                    · refine q_is (fin ?_) (q _ e3)
                      rw [g, Bool.false_or, ← pos_t z]
                      have := of_decide_eq_true w
                      exact decide_eq_false (by omega)
                    · refine ⟨_, _, _, rfl, e3, go ?_⟩
                      rw [g, Bool.false_or, ← pos_t z]
                      have := of_decide_eq_false w
                      exact decide_eq_true (by omega)
                  | _ => cases z
              · exact ⟨_, _, _, rfl, e3, go (by
                  have g : gapAt ds i d = true := not_f g
                  rw [g]
                  rfl)⟩
          · obtain ⟨y1, y2, y3, rfl, e, hb⟩ := p
            refine q_is ?_ (q H2 e)
            rw [lx, List.take_length] at hb
            rw [sz, hb]
    | _ => exact q H Ext.rfl'
theorem ok_number {A : Adr} (T : Txt K mg A) : FnOk P w K mg base CX0 3 A.f_number A.o_number P_number (spGenI (fun i => i.natAbs < Big)) := by
  refine T.d_number.F.ok sc_number (fun vs H Q E h => ?_) (fun cdv A outer s H vs Q E hr h => ?_)
  · obtain ⟨D, rfl, _⟩ := h
    rfl
  · obtain ⟨D, rfl, dc, q⟩ := h
    refine ⟨_, (pss_cons (ps_set (i := 1) sc_number.nd rfl (by first | exact Or.inl rfl | exact Or.inr rfl) (pe_call (ok_roll T) (hr.mono (by decide)) (by rfl) T.d_roll.g T.d_roll.F.kp T.d_roll.b .nil pass0 (pa_cons (pv 0) (pa_cons pe_int pa_nil))))
      (pss_cons (ps_if (pt_cmpR op_lt (pv 1) pe_int (nomark _)) (pss_one (ps_ret (pe_op op_sub (pe_call (ok_roll T) (hr.mono (by decide)) (by rfl) T.d_roll.g T.d_roll.F.kp T.d_roll.b .nil pass0 (pa_cons (pv 0) (pa_cons pe_int pa_nil))) pe_int))) pss_nil)
      (pss_cons (ps_if (pt_cmpR op_eq (pv 1) pe_int (nomark _)) (pss_one (ps_ret (pe_op op_sub (pe_op op_mulW (pe_call (ok_roll T) (hr.mono (by decide)) (by rfl) T.d_roll.g T.d_roll.F.kp T.d_roll.b .nil pass0 (pa_cons (pv 0) (pa_cons (pe_op op_powW pe_int pe_int) pa_nil))) (pe_call (ok_pick T) (hr.mono (by decide)) (by rfl) T.d_pick.g T.d_pick.F.kp T.d_pick.b .nil pass0 (pa_cons (pv 0) (pa_cons (pe_lst (pa_cons pe_int (pa_cons (pe_op op_powW pe_int pe_int) (pa_cons (pe_op op_powW pe_int pe_int) pa_nil)))) pa_nil)))) (pe_call (ok_roll T) (hr.mono (by decide)) (by rfl) T.d_roll.g T.d_roll.F.kp T.d_roll.b .nil pass0 (pa_cons (pv 0) (pa_cons pe_int pa_nil)))))) pss_nil)
      (pss_cons (ps_set (i := 2) sc_number.nd rfl (by first | exact Or.inl rfl | exact Or.inr rfl) (pe_op op_sub (pe_op op_add (pe_op op_powW pe_int pe_int) (pe_call (ok_roll T) (hr.mono (by decide)) (by rfl) T.d_roll.g T.d_roll.F.kp T.d_roll.b .nil pass0 (pa_cons (pv 0) (pa_cons pe_int pa_nil)))) pe_int))
      (pss_one (ps_ret (pe_ifExp (pt_cmpR op_lt (pv 1) pe_int (nomark _)) (pv 2) (pe_op op_sub pe_int (pv 2))))))))), ?_⟩
    refine ⟨_, rfl, D, 6, rfl, dc, by decide, rb (by decide), fun r H1 r0 r1 g1 => ?_⟩
    refine ⟨_, rfl, _, _, rfl, rfl, _, rfl, ite_b (fun _ => ?_) (fun _ => ?_)⟩
    · exact ⟨_, rfl, D, 9, rfl, g1.dc, by decide, rb (by decide), fun r2 H2 a0 a1 g2 => ⟨_, _, rfl, rfl, q _ _ (nb (by omega)) (g1.tr g2)⟩⟩
    · refine ⟨_, rfl, rfl, _, rfl, ite_b (fun _ => ?_) (fun _ => ?_)⟩
      · refine ⟨_, rfl, _, _, rfl, rfl, ⟨by decide, by decide +kernel⟩, D, _, rfl, g1.dc, (by decide +kernel), rb (by decide +kernel), fun r2 H2 a0 a1 g2 => ?_⟩
        refine ⟨_, rfl, _, _, rfl, rfl, ⟨by decide, by decide +kernel⟩, _, _, rfl, rfl, ⟨by decide, by decide +kernel⟩, le_line (by decide), fun p hp => ?_⟩
        refine ⟨D, p, _, rfl, (Ext.nw hp).dc g2.dc, upd_same, g2.dc.ne hp, (fun z => nomatch z), (by decide), fun v H3 hv g3 => ?_⟩
        obtain ⟨w, rfl, hw⟩ : ∃ w : Int, v = .int w ∧ w.natAbs ≤ 10 ^ 40 := by
          rcases List.mem_cons.mp hv with e | e
          · exact ⟨_, e, by decide +kernel⟩
          rcases List.mem_cons.mp e with e | e
          · exact ⟨_, e, by decide +kernel⟩
          rcases List.mem_cons.mp e with e | e
          · exact ⟨_, e, by decide +kernel⟩
          cases e
        have hr : r2.natAbs ≤ 10 ^ 18 := by
          have e : ((10 : Int) ^ Int.toNat 18) = ((10 ^ 18 : Nat) : Int) := by decide +kernel
          rw [e] at a1
          omega
        refine ⟨_, _, rfl, rfl, mul_ok 60 140 (Nat.lt_of_le_of_lt hr (by decide +kernel)) (Nat.lt_of_le_of_lt hw (by decide +kernel)) (by decide), ?_⟩
        exact ⟨_, rfl, D, 7, rfl, g3.dc, by decide, rb (by decide), fun r4 H4 b0 b1 g4 => ⟨_, _, rfl, rfl, q _ _ (prod_b hr hw b0 b1) (((g1.tr g2).nw hp).tr (g3.tr g4))⟩⟩
      · refine ⟨_, _, rfl, rfl, ⟨by decide, by decide +kernel⟩, _, rfl, D, 4, rfl, g1.dc, by decide, rb (by decide), fun r2 H2 a0 a1 g2 => ⟨_, _, rfl, rfl, _, _, rfl, rfl, ?_⟩⟩
        exact ⟨_, rfl, _, _, rfl, rfl, _, rfl, ite_b (fun _ => ⟨_, rfl, q _ _ (edge_b a0 a1) (g1.tr g2)⟩) (fun _ => ⟨_, rfl, _, _, rfl, rfl, q _ _ (edge_n a0 a1) (g1.tr g2)⟩)⟩
theorem ok_odd {A : Adr} (T : Txt K mg A) : FnOk P w K mg base CX0 3 A.f_odd A.o_odd P_odd (spGen (fun d => d ∈ oddDs)) := by
  refine T.d_odd.F.ok sc_odd (fun vs H Q E h => ?_) (fun cdv A outer s H vs Q E hr h => ?_)
  · obtain ⟨D, S, rfl, _⟩ := h
    rfl
  · obtain ⟨D, S, rfl, dc, hS, q⟩ := h
    refine ⟨_, (pss_cons (ps_set (i := 1) sc_odd.nd rfl (by first | exact Or.inl rfl | exact Or.inr rfl) (pe_lst (pa_cons pe_non (pa_cons pe_bl (pa_cons pe_bl (pa_cons pe_str (pa_cons pe_str (pa_cons pe_str (pa_cons (pe_tup pa_nil) (pa_cons (pe_lst pa_nil) (pa_cons pe_dnewK (pa_cons (pe_tup (pa_cons pe_int pa_nil)) (pa_cons (pe_lst (pa_cons pe_int pa_nil)) (pa_cons (pe_disp (pps_cons pe_int pe_int pps_nil) (by rfl) (by rfl) (fun z => by cases z) (by decide)) (pa_cons pe_str (pa_cons (pe_tup (pa_cons (pe_tup (pa_cons pe_int pa_nil)) pa_nil)) (pa_cons pe_str pa_nil)))))))))))))))))
      (pss_one (ps_ret (pe_call (ok_pick T) (hr.mono (by decide)) (by rfl) T.d_pick.g T.d_pick.F.kp T.d_pick.b .nil pass0 (pa_cons (pv 0) (pa_cons (pe_op op_cat (pv 1) (pe_lst (pa_cons (pe_op op_mulW (pe_op op_powW pe_int pe_int) (pe_op op_powW pe_int pe_int)) (pa_cons (pe_op op_sub pe_int (pe_op op_powW pe_int pe_int)) pa_nil)))) pa_nil)))))), ?_⟩
    refine ⟨Nat.zero_le _, fun p1 n1 => ⟨Nat.zero_le _, fun p2 n2 => fun p3 n3 => ⟨le_line (by decide), fun p4 n4 => ⟨le_line (by decide), fun p5 n5 => fun p6 n6 => ⟨upd_same, [(Sum.inl 1, V.int 2)], rfl, by decide, le_line (by decide), fun p7 n7 => ⟨le_line (by simp), fun p8 n8 => ⟨le_line (by simp), fun p9 n9 => ?_⟩⟩⟩⟩⟩⟩⟩
    refine ⟨_, rfl, _, rfl, _, _, rfl, rfl, ⟨by decide, by decide +kernel⟩, _, _, rfl, rfl, ⟨by decide, by decide +kernel⟩, _, _, rfl, rfl, mul_ok 200 200 (by decide +kernel) (by decide +kernel) (by decide), _, _, rfl, rfl, ⟨by decide, by decide +kernel⟩, _, _, rfl, rfl, le_line (by decide), fun p10 n10 => ?_⟩
    have s9 := Ext.nw (o := HO.lst [V.int ((10 ^ Int.toNat 60) * 10 ^ Int.toNat 39), V.int (0 - 10 ^ Int.toNat 60)]) n10
    refine ⟨p9, p10, _, _, rfl, rfl, s9 _ _ upd_same, upd_same, le_line (by simp), fun p11 n11 => ?_⟩
    have x10 := Ext.nw (o := HO.lst ([V.non, .bl true, .bl false, .str (Str.ofString ""), .str (Str.ofString "a"), .str (Str.ofString "1"), .ref p1, .ref p2, .ref p3, .ref p4, .ref p5, .ref p6, .str (Str.ofString "A"), .ref p8, .str (Str.ofString "\n")] ++ [V.int ((10 ^ Int.toNat 60) * 10 ^ Int.toNat 39), V.int (0 - 10 ^ Int.toNat 60)])) n11
    have x9 := s9.tr x10
    have x8 := (Ext.nw n9).tr x9
    have x7 := (Ext.nw n8).tr x8
    have x6 := (Ext.nw n7).tr x7
    have x5 := ((Ext.nw n6).mut n6).tr x6
    have x4 := (Ext.nw n5).tr x5
    have x3 := (Ext.nw n4).tr x4
    have x2 := (Ext.nw n3).tr x3
    have x1 := (Ext.nw n2).tr x2
    have x0 := (Ext.nw n1).tr x1
    have t1 := hS.ext (Ext.nw (o := HO.tup []) n1)
    have t2 := t1.ext (Ext.nw (o := HO.lst []) n2)
    have t3 := t2.ext (Ext.nw (o := HO.dK []) n3)
    have t4 := t3.ext (Ext.nw (o := HO.tup [V.int 1]) n4)
    have t5 := t4.ext (Ext.nw (o := HO.lst [V.int 1]) n5)
    have t6 := t5.ext ((Ext.nw (o := HO.dK []) n6).mut (o := HO.dK (mergeK [] [(Sum.inl 1, V.int 2)])) n6)
    have t7 := t6.ext (Ext.nw (o := HO.tup [V.int 1]) n7)
    have all : DqAll (hide _ S) ([V.non, .bl true, .bl false, .str (Str.ofString ""), .str (Str.ofString "a"), .str (Str.ofString "1"), .ref p1, .ref p2, .ref p3, .ref p4, .ref p5, .ref p6, .str (Str.ofString "A"), .ref p8, .str (Str.ofString "\n")] ++ [V.int ((10 ^ Int.toNat 60) * 10 ^ Int.toNat 39), V.int (0 - 10 ^ Int.toNat 60)]) oddDs :=
      .cons .non (.cons (.bl _) (.cons (.bl _) (.cons (.str _) (.cons (.str _) (.cons (.str _)
        (.cons (.tup (x1.hd _ _ (hide_new hS n1)) .nil)
        (.cons (.lst (x2.hd _ _ (hide_new t1 n2)) .nil)
        (.cons (.dct (kvs := []) (x3.hd _ _ (hide_new t2 n3)) rfl .nil)
        (.cons (.tup (x4.hd _ _ (hide_new t3 n4)) (.cons (.int _) .nil))
        (.cons (.lst (x5.hd _ _ (hide_new t4 n5)) (.cons (.int _) .nil))
        (.cons (.dct (kvs := [(Sum.inl 1, V.int 2)]) (x6.hd _ _ (by rw [hide_ne (t5.nw n6)]; exact upd_same)) rfl (.cons (.int _) .nil))
        (.cons (.str _)
        (.cons (.tup (x8.hd _ _ (hide_new t7 n8)) (.cons (.tup (x7.hd _ _ (hide_new t6 n7)) (.cons (.int _) .nil)) .nil))
        (.cons (.str _) (.cons (.int _) (.cons (.int _) .nil))))))))))))))))
    refine ⟨D, p11, _, rfl, x0.dc dc, upd_same, lst_len (x0.dc dc) upd_same (by simp), (fun z => nomatch z), (by simp), fun v H2 hv g => ?_⟩
    obtain ⟨d, hd, hq⟩ := dq_mem all hv
    exact q v d H2 hd ((Ge.of x0 dc).tr g) (g.q hS.mem hq)
theorem ok_put_at {A : Adr} (T : Txt K mg A) : FnOk P w K mg base CX0 2 A.f_put_at A.o_put_at P_put_at (spPut) := by
  refine T.d_put_at.F.ok sc_put_at (fun vs H Q E h => ?_) (fun cdv A outer s H vs Q E hr h => ?_)
  · obtain ⟨D, S, t, v, ds, d, rfl, _⟩ := h
    rfl
  · obtain ⟨D, S, t, v, ds, d, rfl, dc, hS, ht, hv, hl, q⟩ := h
    refine ⟨_, (pss_cons (ps_set (i := 3) sc_put_at.nd rfl (by first | exact Or.inl rfl | exact Or.inr rfl) (pe_call (ok_roll T) (hr.mono (by decide)) (by rfl) T.d_roll.g T.d_roll.F.kp T.d_roll.b .nil pass0 (pa_cons (pv 0) (pa_cons (pe_op op_add (pe_callB call_len (by rfl) T.z_len PySem.boot_len (pa_cons (pv 1) pa_nil)) pe_int) pa_nil))))
      (pss_one (ps_ret (pe_op op_catA (pe_op op_catA (pe_slice sl_tupA (pv 1) po_none (po_some (pv 3))) (pe_tup (pa_cons (pv 2) pa_nil))) (pe_slice sl_tupA (pv 1) (po_some (pe_op op_add (pv 3) (pe_call (ok_roll T) (hr.mono (by decide)) (by rfl) T.d_roll.g T.d_roll.F.kp T.d_roll.b .nil pass0 (pa_cons (pv 0) (pa_cons pe_int pa_nil))))) po_none))))), ?_⟩
    cases ht with
    | @tup _ xs _ h1 h2 =>
      have nt : t ≠ D := fun e => (hide_of h1).1 (e ▸ hS.mem)
      have ht := (hide_of h1).2
      have lx := h2.len
      refine ⟨_, rfl, _, rfl, _, _, rfl, .inr ⟨_, SqT.of ht, rfl⟩, _, _, rfl, rfl, D, _, rfl, dc, by omega, rb (Nat.lt_trans (show _ < 1000 by omega) (by decide)), fun r H1 r0 r1 g1 => ?_⟩
      dsimp only [tRet, tSeq, tIfS, tAsg, tDrop, tCB, tCons, tNil, tCall, tTest, tB, tAnd, tOr, tNot, tAndV, tOrV, tNotV, tIf, tOp, tUn, tC, tTup, tLst, tNext, tSl, tPart, tNoPart, tPar, gName_app, List.map_cons, List.map_nil]
      refine ⟨_, rfl, _, rfl, _, rfl, slA (g1.kp _ _ nt ht) fun a Ha ea ha fa => ⟨_, rfl, le_line (by simp), fun b nb => ?_⟩⟩
      have gb : Ge D H (upd Ha b (.tup [v])) := (g1.more ea).nw nb
      refine catA (Ext.nw nb _ _ ha) upd_same (by
        have := cutV_length xs none (some r)
        rw [List.length_singleton]
        omega) fun c Hc ec hc fc => ?_
      have gc := gb.more ec
      refine ⟨_, rfl, _, rfl, _, rfl, D, 2, rfl, gc.dc, by decide, rb (by decide), fun r2 H2 a0 a1 g2 => ⟨_, _, rfl, rfl, _, rfl, ?_⟩⟩
      refine slA ((gc.tr g2).kp _ _ nt ht) fun e He ee he fe => ?_
      have ge := (gc.tr g2).more ee
      have nc := tup_ne gc.dc hc
      refine catA (ee _ _ (g2.kp _ _ nc hc)) he (by
        have := cutV_length xs none (some r)
        have := cutV_length xs (some (r + r2)) none
        rw [List.length_append, List.length_singleton]
        omega) fun p Hp ep hp fp => ?_
      have gp := ge.more ep
      have tS : t ∉ S := (hide_of h1).1
      have aS : a ∉ S := fa.elim (fun e => e ▸ tS) fun n => (hS.ge g1).nw n
      have bS : b ∉ S := (hS.ge (g1.more ea)).nw nb
      have cS : c ∉ S := fc.elim (fun e => e ▸ aS) fun z => z.elim (fun e => e ▸ bS) fun n => (hS.ge gb).nw n
      have eS : e ∉ S := fe.elim (fun e => e ▸ tS) fun n => (hS.ge (gc.tr g2)).nw n
      have pS : p ∉ S := fp.elim (fun e => e ▸ cS) fun z => z.elim (fun e => e ▸ eS) fun n => (hS.ge ge).nw n
      obtain ⟨k, ek⟩ := cut_take xs r0
      obtain ⟨j, ej⟩ := cut_drop xs (r := r + r2)
      have up := gp.hd hS.mem
      have h2 := h2.ext up
      refine q (.ref p) k j Hp gp (.tup (by rw [hide_ne pS]; exact hp) ?_)
      rw [ek, ej, show ds.take k ++ d :: ds.drop j = (ds.take k ++ [d]) ++ ds.drop j by rw [List.append_assoc]; rfl]
      exact ((h2.take k).app (.cons (hv.ext up) .nil)).app (h2.drop j)
theorem ok_some_name {A : Adr} (T : Txt K mg A) : FnOk P w K mg base CX0 3 A.f_some_name A.o_some_name P_some_name (spGen (fun d => ∃ z, d = .str z ∧ Wd 100 z)) := by
  refine T.d_some_name.F.ok sc_some_name (fun vs H Q E h => ?_) (fun cdv A outer s H vs Q E hr h => ?_)
  · obtain ⟨D, S, rfl, _⟩ := h
    rfl
  · obtain ⟨D, S, rfl, dc, hS, q⟩ := h
    refine ⟨_, (pss_cons (ps_set (i := 1) sc_some_name.nd rfl (by first | exact Or.inl rfl | exact Or.inr rfl) pe_str)
      (pss_cons (ps_set (i := 2) sc_some_name.nd rfl (by first | exact Or.inl rfl | exact Or.inr rfl) (pe_call (ok_pick T) (hr.mono (by decide)) (by rfl) T.d_pick.g T.d_pick.F.kp T.d_pick.b .nil pass0 (pa_cons (pv 0) (pa_cons (pe_lst (pa_cons pe_int (pa_cons pe_int (pa_cons pe_int (pa_cons pe_int (pa_cons pe_int (pa_cons pe_int (pa_cons pe_int (pa_cons pe_int pa_nil))))))))) pa_nil))))
      (pss_cons (ps_set (i := 3) sc_some_name.nd rfl (by first | exact Or.inl rfl | exact Or.inr rfl) (pe_join pe_str (pe_lc (own := [("_law_turn", 4)]) (g := gName 4) (tt := tYes) (by rfl) sc_some_name.nd (pi_range1 (by rfl) T.z_range (pa_cons (pv 2) pa_nil)) (blkOk_by (own := [("_law_turn", 4)]) (N := N_some_name) (sc := defScope s_some_name) (by decide +kernel)) (fun _ _ _ _ _ => pg_name (i := 4) sc_some_name.nd rfl (Or.inl rfl)) (fun _ _ _ _ _ => pts_nil) (fun _ _ _ _ _ => (pe_ix ix_str (pv 1) (pe_call (ok_roll T) (hr.mono (by decide)) (by rfl) T.d_roll.g T.d_roll.F.kp T.d_roll.b .nil pass0 (pa_cons (pv 0) (pa_cons pe_int pa_nil))) (fun _ _ => rfl))))))
      (pss_cons (ps_if (pt_cmpR op_eq (pe_call (ok_roll T) (hr.mono (by decide)) (by rfl) T.d_roll.g T.d_roll.F.kp T.d_roll.b .nil pass0 (pa_cons (pv 0) (pa_cons pe_int pa_nil))) pe_int (nomark _)) (pss_cons (ps_par (i := 5) (j := 6) (by rfl) sc_some_name.nd rfl rfl (by decide) rfl rfl (pa_cons (pe_call (ok_roll T) (hr.mono (by decide)) (by rfl) T.d_roll.g T.d_roll.F.kp T.d_roll.b .nil pass0 (pa_cons (pv 0) (pa_cons (pe_op op_add (pv 2) pe_int) pa_nil))) (pa_cons pe_str pa_nil)) (by rfl))
      (pss_one (ps_set (i := 3) sc_some_name.nd rfl (by first | exact Or.inl rfl | exact Or.inr rfl) (pe_op op_add_str (pe_op op_add_str (pe_slice sl_str (pv 3) po_none (po_some (pv 5))) (pe_ix ix_str (pv 6) (pe_call (ok_roll T) (hr.mono (by decide)) (by rfl) T.d_roll.g T.d_roll.F.kp T.d_roll.b .nil pass0 (pa_cons (pv 0) (pa_cons (pe_callB call_len (by rfl) T.z_len PySem.boot_len (pa_cons (pv 6) pa_nil)) pa_nil))) (fun _ _ => rfl))) (pe_slice sl_str (pv 3) (po_some (pe_op op_add (pv 5) (pe_call (ok_roll T) (hr.mono (by decide)) (by rfl) T.d_roll.g T.d_roll.F.kp T.d_roll.b .nil pass0 (pa_cons (pv 0) (pa_cons pe_int pa_nil))))) po_none))))) pss_nil)
      (pss_one (ps_ret (pv 3))))))), ?_⟩
    refine ⟨_, rfl, le_line (by simp), fun p hp => ⟨D, p, _, rfl, (Ext.nw hp).dc dc, upd_same, dc.ne hp, (fun z => nomatch z), (by simp), fun v H1 hv g1 => ?_⟩⟩
    obtain ⟨n, hn, rfl⟩ := mem_ints (ns := [1, 2, 7, 8, 8, 9, 0, 3]) hv
    have n09 : 0 ≤ n ∧ n ≤ 9 := by
      simp at hn
      omega
    have g1 := (Ge.of (Ext.nw hp) dc).tr g1
    dsimp only [tRet, tSeq, tIfS, tAsg, tDrop, tCB, tCons, tNil, tCall, tTest, tB, tAnd, tOr, tNot, tAndV, tOrV, tNotV, tIf, tOp, tUn, tC, tTup, tLst, tNext, tSl, tPart, tNoPart, tPar, gName_app, List.map_cons, List.map_nil]
    refine ⟨⟨_, rfl⟩, ?_⟩
    refine lcR_gen (D := D) (S := [D]) (fun n => n ≤ 9) (fun _ v => ∃ c, v = .str ⟨#[c]⟩ ∧ c < 1000) (fun _ _ _ _ h => h) (Hid.one g1.dc) (fun R r => ⟨_, rfl, r n _ n09.1 (by omega) n09.2 (Ge.rfl' g1.dc)⟩) (fun _ => rfl)
      (fun v S2 H2 R g2 hS2 r => ⟨_, rfl, _, rfl, D, 26, rfl, g2.dc, by decide, rb (by decide), fun r1 H3 a0 a1 g3 => ?_⟩) (fun m L H2 xs _ _ hn g2 hx hlen hall => ?_)
    · obtain ⟨c, hc, cl⟩ := sign_at (z := alpha) (by decide +kernel) a0 (show r1 < _ from a1)
      exact ⟨alpha, r1, c, rfl, rfl, le_line (by decide +kernel), hc, r _ H3 g3 ⟨c, rfl, cl⟩⟩
    · obtain ⟨ys, rfl, hy, hsum⟩ := strs_of hall
      rw [List.length_map] at hlen
      refine ⟨_, L, ys, rfl, rfl, .inl (SqL.of hx), ?_, ?_⟩
      · rw [hsum, show (Str.ofString "").length = 0 by decide +kernel]
        omega
      · have wj := wd_join hy
        rw [TL.join_eq]
        have wj : Wd 9 (Str.join (Str.ofString "") ys) := ⟨Nat.le_trans wj.ln (by omega), wj.cs⟩
        generalize Str.join (Str.ofString "") ys = word at wj
        have g2 := g1.tr g2
        refine ⟨_, rfl, D, 3, rfl, g2.dc, by decide, rb (by decide), fun r3 H3 a0 a1 g3 => ⟨rfl, _, rfl, ite_b (fun _ => ?_) (fun _ => ?_)⟩⟩
        · have g3 := g2.tr g3
          have wl := wj.ln
          refine ⟨_, rfl, _, rfl, _, _, rfl, rfl, D, _, rfl, g3.dc, by omega, rb (Nat.lt_trans (show _ < 1000 by omega) (by decide)), fun at1 H4 b0 b1 g4 => ⟨_, _, rfl, ?_⟩⟩
          have g4 := g3.tr g4
          refine ⟨_, rfl, _, rfl, _, rfl, word, rfl, le_line (by omega), _, rfl, _, rfl, _, rfl, _, _, rfl, ⟨le_line (by decide +kernel), rfl⟩, D, _, rfl, g4.dc, by decide +kernel, rb (by decide +kernel), fun r5 H5 c0 c1 g5 => ?_⟩
          have g5 := g4.tr g5
          obtain ⟨c, hc, cl⟩ := sign_at (z := oddS) (by decide +kernel) c0 c1
          have w1 := wd_cut wj none (some at1)
          have w2 := wd_app w1 (wd_one cl)
          refine ⟨oddS, r5, c, rfl, rfl, le_line (by decide +kernel), hc, _, _, rfl, rfl, le_line (by have := w1.ln; show _ + 1 ≤ _; omega), _, rfl, _, rfl, _, rfl, D, 2, rfl, g5.dc, by decide, rb (by decide), fun r6 H6 d0 d1 g6 => ?_⟩
          have w3 := wd_cut wj (some (at1 + r6)) none
          refine ⟨_, _, rfl, rfl, _, rfl, word, rfl, le_line (by omega), _, _, rfl, rfl, le_line (by have := w2.ln; have := w3.ln; omega), _, rfl, ?_⟩
          have w4 := wd_app w2 w3
          exact q _ _ _ ⟨_, rfl, ⟨Nat.le_trans w4.ln (by decide), w4.cs⟩⟩ (g5.tr g6) (.str _)
        · exact ⟨_, rfl, q _ _ _ ⟨word, rfl, ⟨by have := wj.ln; omega, wj.cs⟩⟩ (g2.tr g3) (.str _)⟩
theorem ok_some_row {A : Adr} (T : Txt K mg A) : FnOk P w K mg base CX0 4 A.f_some_row A.o_some_row P_some_row (spGen Good) := by
  refine T.d_some_row.F.ok sc_some_row (fun vs H Q E h => ?_) (fun cdv A outer s H vs Q E hr h => ?_)
  · obtain ⟨D, S, rfl, _⟩ := h
    rfl
  · obtain ⟨D, S, rfl, dc, hS, q⟩ := h
    refine ⟨_, (pss_cons (ps_set (i := 1) sc_some_row.nd rfl (by first | exact Or.inl rfl | exact Or.inr rfl) (pe_callTy call_tuple_of (by rfl) T.z_tuple boot_tuple (pa_cons (pe_lc (own := [("_law_turn", 2)]) (g := gName 2) (tt := tYes) (by rfl) sc_some_row.nd (pi_range1 (by rfl) T.z_range (pa_cons (pe_call (ok_roll T) (hr.mono (by decide)) (by rfl) T.d_roll.g T.d_roll.F.kp T.d_roll.b .nil pass0 (pa_cons (pv 0) (pa_cons pe_int pa_nil))) pa_nil)) (blkOk_by (own := [("_law_turn", 2)]) (N := N_some_row) (sc := defScope s_some_row) (by decide +kernel)) (fun _ _ _ _ _ => pg_name (i := 2) sc_some_row.nd rfl (Or.inl rfl)) (fun _ _ _ _ _ => pts_nil) (fun _ _ _ _ _ => (pe_call (ok_number T) (hr.mono (by decide)) (by rfl) T.d_number.g T.d_number.F.kp T.d_number.b .nil pass0 (pa_cons (pv 0) pa_nil)))) pa_nil)))
      (pss_cons (ps_set (i := 3) sc_some_row.nd rfl (by first | exact Or.inl rfl | exact Or.inr rfl) (pe_call (ok_roll T) (hr.mono (by decide)) (by rfl) T.d_roll.g T.d_roll.F.kp T.d_roll.b .nil pass0 (pa_cons (pv 0) (pa_cons pe_int pa_nil))))
      (pss_cons (ps_if (pt_cmpR op_eq (pv 3) pe_int (nomark _)) (pss_one (ps_ret (pe_callTy call_list_of (by rfl) T.z_list boot_list (pa_cons (pv 1) pa_nil)))) pss_nil)
      (pss_one (ps_ret (pe_ifExp (pt_cmpR op_eq (pv 3) pe_int (nomark _)) (pe_call (ok_put_at T) (hr.mono (by decide)) (by rfl) T.d_put_at.g T.d_put_at.F.kp T.d_put_at.b .nil pass0 (pa_cons (pv 0) (pa_cons (pv 1) (pa_cons (pe_call (ok_odd T) (hr.mono (by decide)) (by rfl) T.d_odd.g T.d_odd.F.kp T.d_odd.b .nil pass0 (pa_cons (pv 0) pa_nil)) pa_nil)))) (pv 1))))))), ?_⟩
    dsimp only [tRet, tSeq, tIfS, tAsg, tDrop, tCB, tCons, tNil, tCall, tTest, tB, tAnd, tOr, tNot, tAndV, tOrV, tNotV, tIf, tOp, tUn, tC, tTup, tLst, tNext, tSl, tPart, tNoPart, tPar, gName_app, List.map_cons, List.map_nil]
    refine lcR_gen (D := D) (S := S) (fun n => n < 8) (fun _ v => ∃ i : Int, v = .int i ∧ i.natAbs < Big) (fun _ _ _ _ h => h) hS (fun R r => ⟨_, rfl, D, 8, rfl, dc, by decide, rb (by decide), fun n H2 n0 n1 g => r n H2 n0 (by omega) n1 g⟩) (fun _ => rfl)
      (fun v S2 H2 R g2 hS2 r => ⟨_, rfl, D, rfl, g2.dc, fun i H3 hi g3 => r _ H3 g3 ⟨i, rfl, hi⟩⟩) (fun n L H2 xs nL hLD hn g2 hx hlen hall => ?_)
    obtain ⟨ns, rfl, hns⟩ := ints_of hall
    rw [List.length_map] at hlen
    have fl : ∀ a ∈ ns.map PyData.int, Fl a := fun a ha => by
      obtain ⟨i, hi, rfl⟩ := List.mem_map.mp ha
      exact fl_int (hns i hi)
    have ln : (ns.map PyData.int).length ≤ 40 := by
      rw [List.length_map]
      omega
    refine ⟨L, _, rfl, .inl ⟨SqL.of hx, fun t nt => ?_⟩⟩
    have gt := g2.nw nt (o := HO.tup (ns.map V.int))
    have hSt := (hS.ge g2).ext (Ext.nw nt (o := HO.tup (ns.map V.int)))
    have dt : Dq (hide (upd H2 t (.tup (ns.map V.int))) S) (.ref t) (.tuple (ns.map PyData.int)) := .tup (hide_new (hS.ge g2) nt) (DqAll.ints ns)
    refine ⟨_, rfl, D, 6, rfl, gt.dc, by decide, rb (by decide), fun r H3 r0 r1 g3 => ?_⟩
    have g3' := gt.tr g3
    have d3 := g3.q hS.mem dt
    have t3 : H3 t = some (.tup (ns.map V.int)) := g3.kp _ _ (gt.dc.ne' upd_same) upd_same
    refine ⟨_, rfl, rfl, _, rfl, ite_b (fun _ => ?_) (fun _ => ?_)⟩
    · refine ⟨_, rfl, t, _, rfl, .inr (SqT.of t3), fun l nl => ?_⟩
      exact q _ _ _ (good_lst (fun a h => (fl a h).am) (by omega) (hd_all fun a h => (fl a h).hd)) (g3'.nw nl) (.lst (hide_new (hS.ge g3') nl) (DqAll.ints ns))
    · refine ⟨_, rfl, rfl, _, rfl, ite_b (fun _ => ?_) (fun _ => ?_)⟩
      · refine ⟨_, rfl, _, rfl, _, rfl, D, S, rfl, g3'.dc, hS.ge g3', fun v d H4 hd g4 dq => ?_⟩
        refine ⟨D, S, t, v, _, d, rfl, (g3'.tr g4).dc, hS.ge (g3'.tr g4), g4.q hS.mem d3, dq, ln, fun v2 k j H5 g5 dq5 => ?_⟩
        exact q _ _ _ (good_put k j fl (odd_am d hd) ln) ((g3'.tr g4).tr g5) dq5
      · exact ⟨_, rfl, q _ _ _ (good_fl fl (by omega)) g3' d3⟩
theorem ok_some_result {A : Adr} (T : Txt K mg A) : FnOk P w K mg base CX0 4 A.f_some_result A.o_some_result P_some_result (spGen Good) := by
  refine T.d_some_result.F.ok sc_some_result (fun vs H Q E h => ?_) (fun cdv A outer s H vs Q E hr h => ?_)
  · obtain ⟨D, S, rfl, _⟩ := h
    rfl
  · obtain ⟨D, S, rfl, dc, hS, q⟩ := h
    refine ⟨_, (pss_cons (ps_set (i := 1) sc_some_result.nd rfl (by first | exact Or.inl rfl | exact Or.inr rfl) (pe_callTy call_tuple_of (by rfl) T.z_tuple boot_tuple (pa_cons (pe_lc (own := [("_law_turn", 2)]) (g := gName 2) (tt := tYes) (by rfl) sc_some_result.nd (pi_range1 (by rfl) T.z_range (pa_cons (pe_call (ok_roll T) (hr.mono (by decide)) (by rfl) T.d_roll.g T.d_roll.F.kp T.d_roll.b .nil pass0 (pa_cons (pv 0) (pa_cons pe_int pa_nil))) pa_nil)) (blkOk_by (own := [("_law_turn", 2)]) (N := N_some_result) (sc := defScope s_some_result) (by decide +kernel)) (fun _ _ _ _ _ => pg_name (i := 2) sc_some_result.nd rfl (Or.inl rfl)) (fun _ _ _ _ _ => pts_nil) (fun _ _ _ _ _ => (pe_op op_add (pe_op op_add pe_int (pe_call (ok_roll T) (hr.mono (by decide)) (by rfl) T.d_roll.g T.d_roll.F.kp T.d_roll.b .nil pass0 (pa_cons (pv 0) (pa_cons pe_int pa_nil)))) (pe_call (ok_pick T) (hr.mono (by decide)) (by rfl) T.d_pick.g T.d_pick.F.kp T.d_pick.b .nil pass0 (pa_cons (pv 0) (pa_cons (pe_lst (pa_cons pe_int (pa_cons pe_int (pa_cons (pe_op op_powW pe_int pe_int) pa_nil)))) pa_nil)))))) pa_nil)))
      (pss_cons (ps_set (i := 3) sc_some_result.nd rfl (by first | exact Or.inl rfl | exact Or.inr rfl) (pe_call (ok_roll T) (hr.mono (by decide)) (by rfl) T.d_roll.g T.d_roll.F.kp T.d_roll.b .nil pass0 (pa_cons (pv 0) (pa_cons pe_int pa_nil))))
      (Evl.pss_cut (ps_if (pt_cmpR op_lt (pv 3) pe_int (nomark _)) (pss_one (ps_set (i := 1) sc_some_result.nd rfl (by first | exact Or.inl rfl | exact Or.inr rfl) (pe_op op_catA (pv 1) (pe_tup (pa_cons pe_non pa_nil))))) pss_nil)
      (Evl.pss_cut (ps_if (pt_cmpR op_eq (pv 3) pe_int (nomark _)) (pss_one (ps_set (i := 1) sc_some_result.nd rfl (by first | exact Or.inl rfl | exact Or.inr rfl) (pe_call (ok_put_at T) (hr.mono (by decide)) (by rfl) T.d_put_at.g T.d_put_at.F.kp T.d_put_at.b .nil pass0 (pa_cons (pv 0) (pa_cons (pv 1) (pa_cons pe_non pa_nil)))))) pss_nil)
      (Evl.pss_cut (ps_if (pt_cmpR op_eq (pv 3) pe_int (nomark _)) (pss_one (ps_set (i := 1) sc_some_result.nd rfl (by first | exact Or.inl rfl | exact Or.inr rfl) (pe_call (ok_put_at T) (hr.mono (by decide)) (by rfl) T.d_put_at.g T.d_put_at.F.kp T.d_put_at.b .nil pass0 (pa_cons (pv 0) (pa_cons (pv 1) (pa_cons (pe_call (ok_pick T) (hr.mono (by decide)) (by rfl) T.d_pick.g T.d_pick.F.kp T.d_pick.b .nil pass0 (pa_cons (pv 0) (pa_cons (pe_lst (pa_cons pe_int (pa_cons (pe_un un_neg pe_int) (pa_cons pe_bl (pa_cons (pe_op op_powW pe_int pe_int) (pa_cons (pe_op op_sub (pe_op op_powW pe_int pe_int) pe_int) (pa_cons pe_str (pa_cons (pe_op op_sub pe_int (pe_op op_powW pe_int pe_int)) pa_nil)))))))) pa_nil))) pa_nil)))))) pss_nil)
      (Evl.pss_cut (ps_if (pt_cmpR op_eq (pv 3) pe_int (nomark _)) (pss_one (ps_set (i := 1) sc_some_result.nd rfl (by first | exact Or.inl rfl | exact Or.inr rfl) (pe_call (ok_put_at T) (hr.mono (by decide)) (by rfl) T.d_put_at.g T.d_put_at.F.kp T.d_put_at.b .nil pass0 (pa_cons (pv 0) (pa_cons (pv 1) (pa_cons (pe_call (ok_odd T) (hr.mono (by decide)) (by rfl) T.d_odd.g T.d_odd.F.kp T.d_odd.b .nil pass0 (pa_cons (pv 0) pa_nil)) pa_nil)))))) pss_nil)
      (pss_one (ps_ret (pe_ifExp (pt_cmpR op_eq (pv 3) pe_int (nomark _)) (pe_callTy call_list_of (by rfl) T.z_list boot_list (pa_cons (pv 1) pa_nil)) (pv 1)))))))))), ?_⟩
    dsimp only [tRet, tSeq, tIfS, tAsg, tDrop, tCB, tCons, tNil, tCall, tTest, tB, tAnd, tOr, tNot, tAndV, tOrV, tNotV, tIf, tOp, tUn, tC, tTup, tLst, tNext, tSl, tPart, tNoPart, tPar, gName_app, List.map_cons, List.map_nil]
    refine lcR_gen (D := D) (S := S) (fun n => n < 7) (fun _ v => ∃ i : Int, v = .int i ∧ i.natAbs < Big) (fun _ _ _ _ h => h) hS (fun R r => ⟨_, rfl, D, 7, rfl, dc, by decide, rb (by decide), fun n H2 n0 n1 g => r n H2 n0 (by omega) n1 g⟩) (fun _ => rfl)
      (fun v S2 H2 R g2 hS2 r => ?_) (fun n L H2 xs nL hLD hn g2 hx hlen hall => ?_)
    · refine ⟨_, rfl, D, 5, rfl, g2.dc, by decide, rb (by decide), fun r1 H3 a0 a1 g3 => ⟨_, _, rfl, rfl, _, rfl, _, _, rfl, rfl, ⟨by decide, by decide +kernel⟩, le_line (by simp), fun p hp => ?_⟩⟩
      refine ⟨D, p, _, rfl, (g3.nw hp).dc, upd_same, g3.dc.ne hp, (fun z => nomatch z), (by simp), fun v2 H4 hv g4 => ?_⟩
      obtain ⟨w, hw, rfl⟩ := mem_ints (ns := [0, 0, 10 ^ Int.toNat 59]) hv
      have wb : w.natAbs + 10 < Big := by
        rcases List.mem_cons.mp hw with e | e
        · rw [e]
          decide +kernel
        rcases List.mem_cons.mp e with e | e
        · rw [e]
          decide +kernel
        rcases List.mem_cons.mp e with e | e
        · rw [e]
          decide +kernel
        cases e
      exact ⟨_, _, rfl, rfl, r _ H4 ((g3.nw hp).tr g4) ⟨_, rfl, by generalize Big = B at wb ⊢; omega⟩⟩
    obtain ⟨ns, rfl, hns⟩ := ints_of hall
    rw [List.length_map] at hlen
    have fl : ∀ a ∈ ns.map PyData.int, Fl a := fun a ha => by
      obtain ⟨i, hi, rfl⟩ := List.mem_map.mp ha
      exact fl_int (hns i hi)
    have ln : (ns.map PyData.int).length ≤ 7 := by
      rw [List.length_map]
      omega
    refine ⟨L, _, rfl, .inl ⟨SqL.of hx, fun t nt => ?_⟩⟩
    have gt := g2.nw nt (o := HO.tup (ns.map V.int))
    have dt : Dq (hide (upd H2 t (.tup (ns.map V.int))) S) (.ref t) (.tuple (ns.map PyData.int)) := .tup (hide_new (hS.ge g2) nt) (DqAll.ints ns)
    refine ⟨_, rfl, D, 8, rfl, gt.dc, by decide, rb (by decide), fun r H3 r0 r1 g3 => ?_⟩
    -- what holds between the ifs: a tuple of at most m flat things
    have M : ∀ (m : Nat) (H4 : Hp), Ge D H H4 → True := fun _ _ _ => trivial
    refine ⟨fun σ H4 => ∃ (t : Addr) (ds : List PyData) (y : Option V), σ = [some (.ref D), some (.ref t), y, some (.int r)] ∧ Ge D H H4 ∧ Dq (hide H4 S) (.ref t) (.tuple ds) ∧ (∀ a ∈ ds, Fl a) ∧ ds.length ≤ 8, ?_, ?_⟩
    · have d3 := g3.q hS.mem dt
      have g3' := gt.tr g3
      refine ⟨_, rfl, _, _, rfl, rfl, _, rfl, ite_b (fun _ => ?_) (fun _ => ⟨t, _, none, rfl, g3', d3, fl, by omega⟩)⟩
      cases d3 with
      | @tup _ xs _ h1 h2 =>
        have tS := (hide_of h1).1
        refine ⟨_, rfl, le_line (by simp), fun b nb => ?_⟩
        dsimp only [tRet, tSeq, tIfS, tAsg, tDrop, tCB, tCons, tNil, tCall, tTest, tB, tAnd, tOr, tNot, tAndV, tOrV, tNotV, tIf, tOp, tUn, tC, tTup, tLst, tNext, tSl, tPart, tNoPart, tPar, gName_app, List.map_cons, List.map_nil]
        refine catA (Ext.nw nb _ _ (hide_of h1).2) upd_same (by
          have := h2.len
          rw [List.length_singleton]
          omega) fun p Hp ep hp fp => ?_
        have gp := (g3'.nw nb).more ep
        have bS := (hS.ge g3').nw nb
        have pS : p ∉ S := fp.elim (fun e => e ▸ tS) fun z => z.elim (fun e => e ▸ bS) fun n => (hS.ge (g3'.nw nb)).nw n
        have up : Ext (hide H3 S) (hide Hp S) := ((Ext.nw nb).tr ep).hd
        refine ⟨p, ns.map PyData.int ++ [.none], none, rfl, gp, .tup (by rw [hide_ne pS]; exact hp) ((h2.ext up).app (.cons .non .nil)), fun a ha => ?_, by rw [List.length_append, List.length_singleton]; omega⟩
        rcases List.mem_append.mp ha with ha | ha
        · exact fl a ha
        · rw [List.mem_singleton.mp ha]
          exact fl_none
    -- way == 2
    intro σ H4 hM
    obtain ⟨t2, ds, y, rfl, g4, d4, fl, ln⟩ := hM
    refine ⟨fun σ H4 => ∃ (t : Addr) (ds : List PyData) (y : Option V), σ = [some (.ref D), some (.ref t), y, some (.int r)] ∧ Ge D H H4 ∧ Dq (hide H4 S) (.ref t) (.tuple ds) ∧ (∀ a ∈ ds, Fl a) ∧ ds.length ≤ 17, ?_, ?_⟩
    · refine ⟨_, rfl, rfl, _, rfl, ite_b (fun _ => ?_) (fun _ => ⟨t2, _, y, rfl, g4, d4, fl, by omega⟩)⟩
      refine ⟨_, rfl, _, rfl, D, S, t2, .non, ds, .none, rfl, g4.dc, hS.ge g4, d4, .non, by omega, fun v2 k j H5 g5 dq5 => ?_⟩
      exact put_mid (m := 8) fl fl_none ln g4 g5 dq5
    intro σ H5 hM
    obtain ⟨t3, ds, y, rfl, g5, d5, fl, ln⟩ := hM
    -- way == 3
    refine ⟨fun σ H4 => ∃ (t : Addr) (ds : List PyData) (y : Option V), σ = [some (.ref D), some (.ref t), y, some (.int r)] ∧ Ge D H H4 ∧ Dq (hide H4 S) (.ref t) (.tuple ds) ∧ (∀ a ∈ ds, Fl a) ∧ ds.length ≤ 35, ?_, ?_⟩
    · refine ⟨_, rfl, rfl, _, rfl, ite_b (fun _ => ?_) (fun _ => ⟨t3, _, y, rfl, g5, d5, fl, by omega⟩)⟩
      refine ⟨_, rfl, _, rfl, _, rfl, 1, rfl, _, _, rfl, rfl, ⟨by decide, by decide +kernel⟩, _, _, rfl, rfl, ⟨by decide, by decide +kernel⟩, _, _, rfl, rfl, _, _, rfl, rfl, ⟨by decide, by decide +kernel⟩, _, _, rfl, rfl, le_line (by simp), fun p hp => ?_⟩
      refine ⟨D, p, _, rfl, (g5.nw hp).dc, upd_same, g5.dc.ne hp, (fun z => nomatch z), (by simp), fun v H6 hv g6 => ?_⟩
      have all : DqAll (hide H6 S) [V.int 0, .int (-1), .bl true, .int (10 ^ Int.toNat 60), .int (10 ^ Int.toNat 60 - 1), .str (Str.ofString "1"), .int (0 - 10 ^ Int.toNat 59)] flDs := .cons (.int _) (.cons (.int _) (.cons (.bl _) (.cons (.int _) (.cons (.int _) (.cons (.str _) (.cons (.int _) .nil))))))
      obtain ⟨d, hd, hq⟩ := dq_mem all hv
      have g6' := (g5.nw hp).tr g6
      refine ⟨D, S, t3, v, ds, d, rfl, g6.dc, hS.ge g6', ((g5.nw hp).tr g6 |> fun _ => (g6.q hS.mem (d5.ext (Ext.nw hp).hd))), hq, by omega, fun v2 k j H7 g7 dq7 => ?_⟩
      exact put_mid (m := 17) fl (fl_ds d hd) ln g6' g7 dq7
    intro σ H6 hM
    obtain ⟨t4, ds, y, rfl, g6, d6, fl, ln⟩ := hM
    -- way == 4
    refine ⟨fun σ H4 => ∃ (t : Addr) (ds : List PyData) (y : Option V), σ = [some (.ref D), some (.ref t), y, some (.int r)] ∧ Ge D H H4 ∧ Dq (hide H4 S) (.ref t) (.tuple ds) ∧ Good (.tuple ds) ∧ (r = 5 → (∀ a ∈ ds, Fl a) ∧ ds.length ≤ 35), ?_, ?_⟩
    · refine ⟨_, rfl, rfl, _, rfl, ite_b (fun e => ?_) (fun _ => ⟨t4, _, y, rfl, g6, d6, good_fl fl (by omega), fun _ => ⟨fl, ln⟩⟩)⟩
      refine ⟨_, rfl, _, rfl, _, rfl, D, S, rfl, g6.dc, hS.ge g6, fun v d H7 hd g7 dq => ?_⟩
      refine ⟨D, S, t4, v, ds, d, rfl, (g6.tr g7).dc, hS.ge (g6.tr g7), g7.q hS.mem d6, dq, by omega, fun v2 k j H8 g8 dq8 => ?_⟩
      have e4 : r = 4 := V.int.inj (of_decide_eq_true e)
      obtain ⟨p, rfl⟩ := dq_ref dq8
      exact ⟨p, _, y, rfl, (g6.tr g7).tr g8, dq8, good_put k j fl (odd_am d hd) (by omega), fun z => by omega⟩
    intro σ H7 hM
    obtain ⟨t5, ds, y, rfl, g7, d7, gd, fl5⟩ := hM
    refine ⟨_, rfl, rfl, _, rfl, ite_b (fun e => ?_) (fun _ => ⟨_, rfl, q _ _ _ gd g7 d7⟩)⟩
    obtain ⟨fl, ln⟩ := fl5 (V.int.inj (of_decide_eq_true e))
    cases d7 with
    | @tup _ xs _ h1 h2 =>
      refine ⟨_, rfl, t5, _, rfl, .inr (SqT.of (hide_of h1).2), fun l nl => ?_⟩
      exact q _ _ _ (good_lst (fun a h => (fl a h).am) (by omega) (hd_all fun a h => (fl a h).hd)) (g7.nw nl) (.lst (hide_new (hS.ge g7) nl) (h2.ext (Ext.nw nl).hd))
theorem ok_told {A : Adr} (T : Txt K mg A) : FnOk P w K mg base CX0 3 A.f_told A.o_told P_told (spFour) := by
  refine T.d_told.F.ok sc_told (fun vs H Q E h => ?_) (fun cdv A outer s H vs Q E hr h => ?_)
  · obtain ⟨v, d, rfl, _⟩ := h
    rfl
  · obtain ⟨v, d, rfl, hd, sm, q⟩ := h
    refine ⟨_, (pss_one (ps_ret (pe_lst (pa_cons (pe_call (ok_is_name T) (hr.mono (by decide)) (by rfl) T.d_is_name.g T.d_is_name.F.kp T.d_is_name.b .nil pass0 (pa_cons (pv 0) pa_nil)) (pa_cons (pe_call (ok_is_integer T) (hr.mono (by decide)) (by rfl) T.d_is_integer.g T.d_is_integer.F.kp T.d_is_integer.b .nil pass0 (pa_cons (pv 0) pa_nil)) (pa_cons (pe_call (ok_is_row T) (hr.mono (by decide)) (by rfl) T.d_is_row.g T.d_is_row.F.kp T.d_is_row.b .nil pass0 (pa_cons (pv 0) pa_nil)) (pa_cons (pe_call (ok_is_result T) (hr.mono (by decide)) (by rfl) T.d_is_result.g T.d_is_result.F.kp T.d_is_result.b .nil pass0 (pa_cons (pv 0) pa_nil)) pa_nil))))))), ?_⟩
    refine ⟨v, rfl, v, d, rfl, hd, sm, fun H1 e1 => ⟨v, rfl, v, d, rfl, hd.ext e1, ⟨v, rfl, v, d, rfl, hd.ext e1, trivial, fun H2 e2 => ⟨v, rfl, v, d, rfl, hd.ext (e1.tr e2), trivial, fun H3 e3 => ⟨le_line (by simp), fun L nL => ?_⟩⟩⟩⟩⟩
    have e := (e1.tr e2).tr e3
    exact q L _ (e.tr (Ext.nw nL)) (e.no nL) upd_same
theorem ok_due {A : Adr} (T : Txt K mg A) : FnOk P w K mg base CX0 3 A.f_due A.o_due P_due (spFour) := by
  refine T.d_due.F.ok sc_due (fun vs H Q E h => ?_) (fun cdv A outer s H vs Q E hr h => ?_)
  · obtain ⟨v, d, rfl, _⟩ := h
    rfl
  · obtain ⟨v, d, rfl, hd, sm, q⟩ := h
    refine ⟨_, (pss_cons (ps_set (i := 1) sc_due.nd rfl (by first | exact Or.inl rfl | exact Or.inr rfl) (pe_lst (pa_cons (pe_call (ok_judge_name T) (hr.mono (by decide)) (by rfl) T.d_judge_name.g T.d_judge_name.F.kp T.d_judge_name.b .nil pass0 (pa_cons (pv 0) pa_nil)) (pa_cons (pe_call (ok_judge_integer T) (hr.mono (by decide)) (by rfl) T.d_judge_integer.g T.d_judge_integer.F.kp T.d_judge_integer.b .nil pass0 (pa_cons (pv 0) pa_nil)) pa_nil))))
      (pss_one (ps_ret (pe_op op_cat (pv 1) (pe_lst (pa_cons (pe_call (ok_judge_row T) (hr.mono (by decide)) (by rfl) T.d_judge_row.g T.d_judge_row.F.kp T.d_judge_row.b .nil pass0 (pa_cons (pv 0) pa_nil)) (pa_cons (pe_call (ok_judge_result T) (hr.mono (by decide)) (by rfl) T.d_judge_result.g T.d_judge_result.F.kp T.d_judge_result.b .nil pass0 (pa_cons (pv 0) pa_nil)) pa_nil))))))), ?_⟩
    refine ⟨v, rfl, v, d, rfl, hd, sm, fun H1 e1 => ⟨v, rfl, v, d, rfl, hd.ext e1, ⟨le_line (by simp), fun L nL => ?_⟩⟩⟩
    have x1 := e1.tr (Ext.nw nL (o := HO.lst [V.bl (nameD d), V.bl (intD d)]))
    refine ⟨_, rfl, v, rfl, v, d, rfl, hd.ext x1, trivial, fun H2 e2 => ⟨v, rfl, v, d, rfl, hd.ext (x1.tr e2), trivial, fun H3 e3 => ⟨le_line (by simp), fun M nM => ?_⟩⟩⟩
    have x3 := (x1.tr e2).tr e3
    have hL := (e2.tr e3) _ _ (upd_same (H := H1) (a := L) (o := HO.lst [V.bl (nameD d), V.bl (intD d)]))
    refine ⟨L, M, _, _, rfl, rfl, Ext.nw nM _ _ hL, upd_same, le_line (by simp), fun N nN => ?_⟩
    exact q N _ (x3.tr ((Ext.nw nM).tr (Ext.nw nN))) ((x3.tr (Ext.nw nM)).no nN) upd_same
theorem ok_right {A : Adr} (T : Txt K mg A) : FnG P w K mg base CX0 5 A.f_right A.o_right P_right (spTrue) := by
  refine okG T.d_right.F sc_right (fun vs H Q E h => ?_) (fun cdv A outer s H vs Q E cm hr h => ?_)
  · obtain ⟨D, rfl, _⟩ := h
    rfl
  · obtain ⟨D, rfl, dc, q⟩ := h
    refine ⟨_, (pss_cons (ps_set (i := 1) sc_right.nd rfl (by first | exact Or.inl rfl | exact Or.inr rfl) (pe_lst pa_nil))
      (pss_cons (ps_for PassesOwn.never rfl (pi_range1 (by rfl) T.z_range (pa_cons pe_int pa_nil)) (pg_name (i := 2) sc_right.nd rfl (by first | exact Or.inl rfl | exact Or.inr rfl)) (pss_one (ps_set (i := 1) sc_right.nd rfl (by first | exact Or.inl rfl | exact Or.inr rfl) (pe_op op_cat (pv 1) (pe_lst (pa_cons (pe_call (ok_some_name T) (hr.mono (by decide)) (by rfl) T.d_some_name.g T.d_some_name.F.kp T.d_some_name.b .nil pass0 (pa_cons (pv 0) pa_nil)) (pa_cons (pe_call (ok_number T) (hr.mono (by decide)) (by rfl) T.d_number.g T.d_number.F.kp T.d_number.b .nil pass0 (pa_cons (pv 0) pa_nil)) (pa_cons (pe_call (ok_some_row T) (hr.mono (by decide)) (by rfl) T.d_some_row.g T.d_some_row.F.kp T.d_some_row.b .nil pass0 (pa_cons (pv 0) pa_nil)) (pa_cons (pe_call (ok_some_result T) (hr.mono (by decide)) (by rfl) T.d_some_result.g T.d_some_result.F.kp T.d_some_result.b .nil pass0 (pa_cons (pv 0) pa_nil)) pa_nil)))))))))
      (pss_cons (ps_expr (pe_bm PySem.F.plainAttrs_list PySem.F.slot_list_append PySem.F.type_list_append mt_append (pv 1) (pa_cons (pe_call (ok_odd T) (hr.mono (by decide)) (by rfl) T.d_odd.g T.d_odd.F.kp T.d_odd.b .nil pass0 (pa_cons (pv 0) pa_nil)) pa_nil)))
      (pss_cons (ps_for PassesOwn.never rfl (pi_list (pv 1)) (pg_name (i := 3) sc_right.nd rfl (by first | exact Or.inl rfl | exact Or.inr rfl)) (pss_cons (ps_set (i := 4) sc_right.nd rfl (by first | exact Or.inl rfl | exact Or.inr rfl) (pe_callB (call_repr cm hr.units) (by rfl) T.z_repr boot_repr (pa_cons (pv 3) pa_nil)))
      (pss_one (ps_if (PW.pt (pw_or (pt_cmpR op_ne (pe_callB (call_repr cm hr.units) (by rfl) T.z_repr boot_repr (pa_cons (pe_call (ok_told T) (hr.mono (by decide)) (by rfl) T.d_told.g T.d_told.F.kp T.d_told.b .nil pass0 (pa_cons (pv 3) pa_nil)) pa_nil)) (pe_callB (call_repr cm hr.units) (by rfl) T.z_repr boot_repr (pa_cons (pe_call (ok_due T) (hr.mono (by decide)) (by rfl) T.d_due.g T.d_due.F.kp T.d_due.b .nil pass0 (pa_cons (pv 3) pa_nil)) pa_nil)) (nomark _)) (pw_or1 (pt_cmpR op_ne (pe_callB (call_repr cm hr.units) (by rfl) T.z_repr boot_repr (pa_cons (pv 3) pa_nil)) (pv 4) (nomark _))))) (pss_one (ps_ret pe_bl)) pss_nil))))
      (pss_one (ps_ret pe_bl)))))), ?_⟩
    -- some = []
    refine ⟨Nat.zero_le _, fun l0 n0 => ?_⟩
    dsimp only [tRet, tSeq, tAsg, tIfS, tNext, gName_app]
    refine ⟨12, rfl, by decide, by decide, for_range (n := 12) (fun i σ H2 => ∃ (l : Addr) (xs : List V) (y1 y2 y3 : Option V), σ = [some (.ref D), some (.ref l), y1, y2, y3] ∧ Ge D H H2 ∧ l ≠ D ∧ H l = none ∧ H2 l = some (.lst xs) ∧ xs.length = 4 * i ∧ ∀ x ∈ xs, ∃ d, Good d ∧ Dq (hide H2 [l, D]) x d)
      ⟨l0, [], none, none, none, rfl, (Ge.rfl' dc).nw n0, dc.ne n0, n0, upd_same, rfl, fun x h => nomatch h⟩ ?_ ?_⟩
    · rintro i σ H2 hi ⟨l, xs, y1, y2, y3, rfl, g2, nl, fl, hl, lx, gx⟩
      have s2 : Hid H2 D [l, D] := (Hid.one g2.dc).more (by rw [hl]; exact fun z => nomatch z)
      refine ⟨_, rfl, _, rfl, D, [l, D], rfl, g2.dc, s2, fun v1 d1 H3 p1 g3 q1 => ?_⟩
      refine ⟨_, rfl, D, rfl, g3.dc, fun i2 H4 p2 g4 => ?_⟩
      refine ⟨_, rfl, D, [l, D], rfl, g4.dc, (s2.ge g3).ge g4, fun v3 d3 H5 p3 g5 q3 => ?_⟩
      refine ⟨_, rfl, D, [l, D], rfl, g5.dc, ((s2.ge g3).ge g4).ge g5, fun v4 d4 H6 p4 g6 q4 => ?_⟩
      refine ⟨le_line (by simp), fun p np => ?_⟩
      have gg := ((g3.tr g4).tr g5).tr g6
      have hl6 := gg.kp _ _ nl hl
      refine ⟨l, p, _, _, rfl, rfl, Ext.nw np _ _ hl6, upd_same, le_line (by simp; omega), fun m nm => ?_⟩
      have gn := ((g2.tr gg).nw np).nw nm (o := HO.lst (xs ++ [v1, V.int i2, v3, v4]))
      have up : Ext (hide H6 [l, D]) (hide (upd (upd H6 p (.lst [v1, V.int i2, v3, v4])) m (.lst (xs ++ [v1, V.int i2, v3, v4]))) [m, D]) := fun b o e => by
        obtain ⟨nb, e⟩ := hide_of e
        have e2 := Ext.nw (o := HO.lst [v1, V.int i2, v3, v4]) np _ _ e
        have bm : b ≠ m := ne_of_none e2 nm
        rw [hide_ne (fun z => by
          rcases List.mem_cons.mp z with z | z
          · exact bm z
          · exact nb (List.mem_cons_of_mem _ z)), upd_ne bm]
        exact e2
      refine ⟨m, _, _, y2, y3, rfl, gn, (g6.nw np).dc.ne nm, ((g2.tr gg).nw np).fresh nm, upd_same, by simp [lx]; omega, fun x hx => ?_⟩
      have sD : D ∈ [l, D] := by simp
      rcases List.mem_append.mp hx with hx | hx
      · obtain ⟨d, gd, dq⟩ := gx x hx
        exact ⟨d, gd, (gg.q sD dq).ext up⟩
      · rcases List.mem_cons.mp hx with e | hx
        · obtain ⟨z, rfl, wz⟩ := p1
          exact ⟨_, wd_good wz, by rw [e]; exact (((g4.tr g5).tr g6).q sD q1).ext up⟩
        rcases List.mem_cons.mp hx with e | hx
        · exact ⟨_, good_am (fl_int p2).am, by rw [e]; exact .int _⟩
        rcases List.mem_cons.mp hx with e | hx
        · exact ⟨_, p3, by rw [e]; exact (g6.q sD q3).ext up⟩
        rcases List.mem_cons.mp hx with e | hx
        · exact ⟨_, p4, by rw [e]; exact q4.ext up⟩
        cases hx
    · rintro σ H2 ⟨l, xs, y1, y2, y3, rfl, g2, nl, fl, hl, lx, gx⟩
      have s2 : Hid H2 D [l, D] := (Hid.one g2.dc).more (by rw [hl]; exact fun z => nomatch z)
      refine ⟨_, rfl, .inl ⟨rfl, _, SqL.of hl⟩, _, rfl, D, [l, D], rfl, g2.dc, s2, fun v d H3 hd g3 dq => ⟨l, _, _, rfl, rfl, g3.kp _ _ nl hl, lt_line (by omega), ?_⟩⟩
      have gx4 : ∀ x ∈ xs ++ [v], ∃ d, Good d ∧ Dq (upd H3 l (.lst (xs ++ [v]))) x d := fun x hx => by
        have up : Ext (hide H3 [l, D]) (upd H3 l (.lst (xs ++ [v]))) := by
          rw [← hide_upd (H := H3) (o := .lst (xs ++ [v])) (List.mem_cons_self (a := l) (l := [D]))]
          exact hide_le
        rcases List.mem_append.mp hx with hx | hx
        · obtain ⟨d, gd, q1⟩ := gx x hx
          exact ⟨d, gd, (g3.q s2.mem q1).ext up⟩
        · rw [List.mem_singleton.mp hx]
          exact ⟨d, good_am (odd_am d hd), dq.ext up⟩
      have g4 : Ge D H (upd H3 l (.lst (xs ++ [v]))) := by
        refine ⟨fun b o nb e => ?_, ?_⟩
        · rw [upd_ne (ne_of_none e fl)]
          exact (g2.tr g3).kp b o nb e
        · obtain ⟨a1, a2, a3, e⟩ := g3.dc
          exact ⟨a1, a2, a3, by rw [upd_ne nl.symm]; exact e⟩
      refine ⟨_, rfl, l, rfl, ⟨_, SqL.of upd_same⟩, for_list (K := K) (a := l) (xs := xs ++ [v]) (fun i σ H5 => ∃ (y2 y3 y4 : Option V), σ = [some (.ref D), some (.ref l), y2, y3, y4] ∧ Ext (upd H3 l (.lst (xs ++ [v]))) H5)
        ⟨_, _, _, rfl, Ext.rfl'⟩ (fun i σ H5 _ p => by obtain ⟨_, _, _, _, e⟩ := p; exact SqL.of (e _ _ upd_same)) ?_ ?_⟩
      · rintro i x σ H5 hi ⟨y2, y3, y4, rfl, e5⟩
        obtain ⟨d, gd, dq⟩ := gx4 x (List.mem_of_getElem? hi)
        have dq5 := dq.ext e5
        refine ⟨_, rfl, x, d, rfl, dq5, gd.tl, ?_⟩
        refine ⟨_, rfl, x, d, rfl, dq5, gd.sm, fun L1 H6 e6 n1 h1 => ⟨.ref L1, _, rfl, .lst h1 (DqAll.bools _), tells_four _ rfl, ?_⟩⟩
        refine ⟨_, rfl, x, d, rfl, dq5.ext e6, gd.sm, fun L2 H7 e7 n2 h2 => ⟨.ref L2, _, rfl, .lst h2 (DqAll.bools _), tells_four _ rfl, rfl, _, rfl, ?_⟩⟩
        refine ite_b (fun e => absurd rfl (of_decide_eq_false (not_t e))) (fun _ => ?_)
        refine ⟨_, rfl, x, d, rfl, dq5.ext (e6.tr e7), gd.tl, _, rfl, rfl, _, rfl, ?_⟩
        exact ite_b (fun e => absurd rfl (of_decide_eq_false (not_t e))) (fun _ => ⟨_, _, _, rfl, (e5.tr e6).tr e7⟩)
      · rintro σ H5 ⟨y2, y3, y4, rfl, e5⟩
        exact q H5 (g4.more e5)
theorem ok_law {A : Adr} (T : Txt K mg A) : FnG P w K mg base CX0 6 A.f_law A.o_law P_law (spLaw K) := by
  refine okG T.d_law.F sc_law (fun vs H Q E h => ?_) (fun cdv A outer s H vs Q E cm hr h => ?_)
  · obtain ⟨a, ns, rfl, _⟩ := h
    rfl
  · obtain ⟨a, ns, rfl, hS, hl, q⟩ := h
    refine ⟨_, (pss_cons (ps_for PassesOwn.never rfl (pi_range1 (by rfl) T.z_range (pa_cons (pe_callB (call_max2 rfl) (by rfl) T.z_max boot_max (pa_cons pe_int (pa_cons (pe_callB (call_min2 rfl) (by rfl) T.z_min boot_min (pa_cons pe_int (pa_cons (pe_callB call_len (by rfl) T.z_len PySem.boot_len (pa_cons (pv 0) pa_nil)) pa_nil))) pa_nil))) pa_nil)) (pg_name (i := 1) sc_law.nd rfl (by first | exact Or.inl rfl | exact Or.inr rfl)) (pss_one (ps_if (pt_not (pt_val (pe_callG (ok_right T) cm (hr.mono (by decide)) (by rfl) T.d_right.g T.d_right.F.kp T.d_right.b .nil pass0 (pa_cons (pe_call (ok_dice T) (hr.mono (by decide)) (by rfl) T.d_dice.g T.d_dice.F.kp T.d_dice.b .nil pass0 (pa_cons (pv 0) (pa_cons (pv 1) pa_nil))) pa_nil)))) (pss_one (ps_ret pe_bl)) pss_nil)))
      (pss_cons (ps_set (i := 2) sc_law.nd rfl (by first | exact Or.inl rfl | exact Or.inr rfl) (pe_lst (pa_cons pe_str (pa_cons pe_str (pa_cons (pe_op op_sub (pe_op op_powW pe_int pe_int) pe_int) (pa_cons (pe_op op_powW pe_int pe_int) (pa_cons (pe_op op_sub pe_int (pe_op op_powW pe_int pe_int)) (pa_cons pe_bl (pa_cons (pe_tup (pa_cons pe_int (pa_cons pe_int (pa_cons pe_int (pa_cons pe_int (pa_cons pe_int (pa_cons pe_int pa_nil))))))) (pa_cons (pe_op op_repT (pe_tup (pa_cons pe_int pa_nil)) pe_int) (pa_cons (pe_tup (pa_cons pe_int pa_nil)) pa_nil)))))))))))
      (pss_cons (ps_set (i := 2) sc_law.nd rfl (by first | exact Or.inl rfl | exact Or.inr rfl) (pe_op op_cat (pv 2) (pe_lst (pa_cons (pe_tup (pa_cons pe_int (pa_cons pe_non pa_nil))) (pa_cons (pe_tup (pa_cons pe_non pa_nil)) (pa_cons (pe_tup (pa_cons pe_non (pa_cons pe_int pa_nil))) (pa_cons (pe_tup (pa_cons pe_int (pa_cons pe_int (pa_cons pe_int (pa_cons pe_int (pa_cons pe_non pa_nil)))))) (pa_cons (pe_tup (pa_cons pe_int (pa_cons pe_int (pa_cons pe_int (pa_cons pe_int (pa_cons pe_int pa_nil)))))) (pa_cons (pe_tup (pa_cons pe_int (pa_cons pe_int (pa_cons pe_int (pa_cons pe_int (pa_cons pe_int (pa_cons pe_non pa_nil))))))) (pa_cons (pe_tup (pa_cons pe_int (pa_cons pe_bl pa_nil))) pa_nil))))))))))
      (pss_cons (ps_set (i := 3) sc_law.nd rfl (by first | exact Or.inl rfl | exact Or.inr rfl) (pe_lst (pa_cons (pe_lst (pa_cons pe_int (pa_cons pe_int (pa_cons pe_int (pa_cons pe_int pa_nil))))) (pa_cons (pe_lst (pa_cons pe_int (pa_cons pe_int (pa_cons pe_int (pa_cons pe_int pa_nil))))) (pa_cons (pe_lst (pa_cons pe_int (pa_cons pe_int (pa_cons pe_int (pa_cons pe_int pa_nil))))) (pa_cons (pe_lst (pa_cons pe_int (pa_cons pe_int (pa_cons pe_int (pa_cons pe_int pa_nil))))) (pa_cons (pe_lst (pa_cons pe_int (pa_cons pe_int (pa_cons pe_int (pa_cons pe_int pa_nil))))) (pa_cons (pe_lst (pa_cons pe_int (pa_cons pe_int (pa_cons pe_int (pa_cons pe_int pa_nil))))) (pa_cons (pe_lst (pa_cons pe_int (pa_cons pe_int (pa_cons pe_int (pa_cons pe_int pa_nil))))) pa_nil)))))))))
      (pss_cons (ps_set (i := 3) sc_law.nd rfl (by first | exact Or.inl rfl | exact Or.inr rfl) (pe_op op_cat (pv 3) (pe_lst (pa_cons (pe_lst (pa_cons pe_int (pa_cons pe_int (pa_cons pe_int (pa_cons pe_int pa_nil))))) (pa_cons (pe_lst (pa_cons pe_int (pa_cons pe_int (pa_cons pe_int (pa_cons pe_int pa_nil))))) (pa_cons (pe_lst (pa_cons pe_int (pa_cons pe_int (pa_cons pe_int (pa_cons pe_int pa_nil))))) (pa_cons (pe_lst (pa_cons pe_int (pa_cons pe_int (pa_cons pe_int (pa_cons pe_int pa_nil))))) (pa_cons (pe_lst (pa_cons pe_int (pa_cons pe_int (pa_cons pe_int (pa_cons pe_int pa_nil))))) (pa_cons (pe_lst (pa_cons pe_int (pa_cons pe_int (pa_cons pe_int (pa_cons pe_int pa_nil))))) (pa_cons (pe_lst (pa_cons pe_int (pa_cons pe_int (pa_cons pe_int (pa_cons pe_int pa_nil))))) pa_nil))))))))))
      (pss_cons (ps_set (i := 3) sc_law.nd rfl (by first | exact Or.inl rfl | exact Or.inr rfl) (pe_op op_cat (pv 3) (pe_lst (pa_cons (pe_lst (pa_cons pe_int (pa_cons pe_int (pa_cons pe_int (pa_cons pe_int pa_nil))))) (pa_cons (pe_lst (pa_cons pe_int (pa_cons pe_int (pa_cons pe_int (pa_cons pe_int pa_nil))))) pa_nil)))))
      (pss_cons (ps_setLc (i := 4) (own := [("_law_value", 6)]) (g := gName 6) (tt := tYes) (by rfl) sc_law.nd rfl rfl (sw_true rfl rfl rfl (by decide +kernel)) (pi_list (pv 2)) (blkOk_by (own := [("_law_value", 6)]) (N := N_law) (sc := defScope s_law) (by decide +kernel)) (fun _ _ _ _ _ => pg_name (i := 6) sc_law.nd rfl (Or.inl rfl)) (fun _ _ _ _ _ => pts_nil) (fun _ _ _ _ _ => (by refine (pe_lc (wi := iList K (tCall spFour [] E0 (tCons (tVar 6) tNil))) (te := tCB rInt1 (tCons (tVar 5) tNil)) (own := [("_law_one", 5)]) (g := gName 5) (tt := tYes) (by rfl) sc_law.nd ?hi (blkOk_by (own := [("_law_one", 5)]) (N := N_law) (sc := relS _ (defScope s_law)) (by decide +kernel)) (fun _ _ _ _ _ => pg_name (i := 5) sc_law.nd rfl (Or.inl rfl)) (fun _ _ _ _ _ => pts_nil) ?he); (case hi => exact (pi_list (pe_call (ok_told T) (hr.mono (by decide)) (by rfl) T.d_told.g T.d_told.F.kp T.d_told.b .nil pass0 (pa_cons (pv 6) pa_nil)))); (case he => exact (fun _ _ _ _ _ => (pe_callTy call_int1 (by rfl) T.z_int boot_int (pa_cons (pv 5) pa_nil)))))))
      (pss_cons (ps_if (pt_cmpR op_in_seq pe_bl (pe_lc (own := [("_law_word", 7)]) (g := gName 7) (tt := tYes) (by rfl) sc_law.nd (pi_list (pe_lst (pa_cons pe_str (pa_cons pe_str (pa_cons pe_str (pa_cons pe_str (pa_cons pe_str (pa_cons pe_str (pa_cons pe_str pa_nil))))))))) (blkOk_by (own := [("_law_word", 7)]) (N := N_law) (sc := defScope s_law) (by decide +kernel)) (fun _ _ _ _ _ => pg_name (i := 7) sc_law.nd rfl (Or.inl rfl)) (fun _ _ _ _ _ => pts_nil) (fun _ _ _ _ _ => (pe_call (ok_is_name T) (hr.mono (by decide)) (by rfl) T.d_is_name.g T.d_is_name.F.kp T.d_is_name.b .nil pass0 (pa_cons (pv 7) pa_nil)))) (by rfl)) (pss_one (ps_ret pe_bl)) pss_nil)
      (pss_one (ps_ret (pe_and (pe_cmpR (op_eqD hr.units) (pv 4) (pv 3) (nomark _)) (pe_and (pe_cmpR op_eq (pe_glob (v := .int 60) (by rfl) T.g_MAX_DIGITS.choose_spec ⟨_, rfl⟩) pe_int (nomark _)) (pe_one (pe_cmpR op_eq (pe_glob (v := .int 6) (by rfl) T.g_MAX_COLUMNS.choose_spec ⟨_, rfl⟩) pe_int (nomark _))))))))))))))), ?_⟩
    refine ⟨_, rfl, _, _, rfl, .inl ⟨_, hS, rfl⟩, _, _, rfl, _, _, rfl, _, rfl, ?_⟩
    have nb : ∀ k : Int, 0 ≤ (if (if k < 8 then k else 8) > 1 then (if k < 8 then k else 8) else 1) ∧ (if (if k < 8 then k else 8) > 1 then (if k < 8 then k else 8) else 1) ≤ 8 := fun k => by
      by_cases h1 : k < 8
      · rw [if_pos h1]
        by_cases h2 : k > 1
        · rw [if_pos h2]
          omega
        · rw [if_neg h2]
          omega
      · rw [if_neg h1]
        decide
    have nb1 := nb ((ns.map V.int).length : Int)
    generalize (if (if ((ns.map V.int).length : Int) < 8 then ((ns.map V.int).length : Int) else 8) > 1 then (if ((ns.map V.int).length : Int) < 8 then ((ns.map V.int).length : Int) else 8) else 1) = n at nb1 ⊢
    refine ⟨by omega, by omega, for_range (n := n.toNat) (fun i σ H2 => ∃ y1, σ = [some (.ref a), y1, none, none, none, none, none, none] ∧ Ext H H2) ⟨none, rfl, Ext.rfl'⟩ ?_ ?_⟩
    · rintro i σ H2 hi ⟨y1, rfl, e2⟩
      refine ⟨_, rfl, _, rfl, a, ns, i, by rw [Int.zero_add]; rfl, Evl.ex_l e2 hS, by omega, fun D H3 nD e3 dc3 => ⟨D, rfl, dc3, fun H4 g4 => ⟨_, rfl, ?_⟩⟩⟩
      refine ⟨_, rfl, fun b o e => ?_⟩
      have e := e2 _ _ e
      exact g4.kp b o (ne_of_none e nD) (e3 _ _ e)
    · rintro σ H2 ⟨y1, rfl, e2⟩
      clear nb nb1
      change tSeq _ _ _ _ _
      dsimp only [tRet, tSeq, tAsg, tIfS, tNext, gName_app]
      refine ((evd_lst (evda_cons evd_str (evda_cons evd_str (evda_cons (evd_int0 (evd_int2 evd_int evd_int ⟨by decide, by decide +kernel⟩ rfl) evd_int rfl) (evda_cons (evd_int2 evd_int evd_int ⟨by decide, by decide +kernel⟩ rfl) (evda_cons (evd_int0 evd_int (evd_int2 evd_int evd_int ⟨by decide, by decide +kernel⟩ rfl) rfl) (evda_cons evd_bl (evda_cons (evd_tup (evda_cons evd_int (evda_cons evd_int (evda_cons evd_int (evda_cons evd_int (evda_cons evd_int (evda_cons evd_int evda_nil)))))) (by decide)) (evda_cons (evd_rep (evd_tup (evda_cons evd_int evda_nil) (by decide)) (fun z => nomatch z) (by decide) (by decide) (by decide)) (evda_cons (evd_tup (evda_cons evd_int evda_nil) (by decide)) evda_nil))))))))) (by decide)) : EvD _ _ _ (.list (someDs.take 9))) H2 Ext.rfl' _ fun v1 H3 e3 d1 => ?_
      refine (evd_cat (as := someDs.take 9) (bs := someDs.drop 9) (evd_var rfl d1) (evd_lst (evda_cons (evd_tup (evda_cons evd_int (evda_cons evd_non evda_nil)) (by decide)) (evda_cons (evd_tup (evda_cons evd_non evda_nil) (by decide)) (evda_cons (evd_tup (evda_cons evd_non (evda_cons evd_int evda_nil)) (by decide)) (evda_cons (evd_tup (evda_cons evd_int (evda_cons evd_int (evda_cons evd_int (evda_cons evd_int (evda_cons evd_non evda_nil))))) (by decide)) (evda_cons (evd_tup (evda_cons evd_int (evda_cons evd_int (evda_cons evd_int (evda_cons evd_int (evda_cons evd_int evda_nil))))) (by decide)) (evda_cons (evd_tup (evda_cons evd_int (evda_cons evd_int (evda_cons evd_int (evda_cons evd_int (evda_cons evd_int (evda_cons evd_non evda_nil)))))) (by decide)) (evda_cons (evd_tup (evda_cons evd_int (evda_cons evd_bl evda_nil)) (by decide)) evda_nil))))))) (by decide)) (by decide)) H3 Ext.rfl' _ fun v2 H4 e4 d2 => ?_
      refine ((evd_lst (evda_cons (evd_lst (evda_cons evd_int (evda_cons evd_int (evda_cons evd_int (evda_cons evd_int evda_nil)))) (by decide)) (evda_cons (evd_lst (evda_cons evd_int (evda_cons evd_int (evda_cons evd_int (evda_cons evd_int evda_nil)))) (by decide)) (evda_cons (evd_lst (evda_cons evd_int (evda_cons evd_int (evda_cons evd_int (evda_cons evd_int evda_nil)))) (by decide)) (evda_cons (evd_lst (evda_cons evd_int (evda_cons evd_int (evda_cons evd_int (evda_cons evd_int evda_nil)))) (by decide)) (evda_cons (evd_lst (evda_cons evd_int (evda_cons evd_int (evda_cons evd_int (evda_cons evd_int evda_nil)))) (by decide)) (evda_cons (evd_lst (evda_cons evd_int (evda_cons evd_int (evda_cons evd_int (evda_cons evd_int evda_nil)))) (by decide)) (evda_cons (evd_lst (evda_cons evd_int (evda_cons evd_int (evda_cons evd_int (evda_cons evd_int evda_nil)))) (by decide)) evda_nil))))))) (by decide)) : EvD _ _ _ (.list (dueDs.take 7))) H4 Ext.rfl' _ fun v3 H5 e5 d3 => ?_
      refine (evd_cat (as := dueDs.take 7) (bs := (dueDs.drop 7).take 7) (evd_var rfl d3) (evd_lst (evda_cons (evd_lst (evda_cons evd_int (evda_cons evd_int (evda_cons evd_int (evda_cons evd_int evda_nil)))) (by decide)) (evda_cons (evd_lst (evda_cons evd_int (evda_cons evd_int (evda_cons evd_int (evda_cons evd_int evda_nil)))) (by decide)) (evda_cons (evd_lst (evda_cons evd_int (evda_cons evd_int (evda_cons evd_int (evda_cons evd_int evda_nil)))) (by decide)) (evda_cons (evd_lst (evda_cons evd_int (evda_cons evd_int (evda_cons evd_int (evda_cons evd_int evda_nil)))) (by decide)) (evda_cons (evd_lst (evda_cons evd_int (evda_cons evd_int (evda_cons evd_int (evda_cons evd_int evda_nil)))) (by decide)) (evda_cons (evd_lst (evda_cons evd_int (evda_cons evd_int (evda_cons evd_int (evda_cons evd_int evda_nil)))) (by decide)) (evda_cons (evd_lst (evda_cons evd_int (evda_cons evd_int (evda_cons evd_int (evda_cons evd_int evda_nil)))) (by decide)) evda_nil))))))) (by decide)) (by decide)) H5 Ext.rfl' _ fun v4 H6 e6 d4 => ?_
      refine (evd_cat (as := dueDs.take 14) (bs := dueDs.drop 14) (evd_var rfl d4) (evd_lst (evda_cons (evd_lst (evda_cons evd_int (evda_cons evd_int (evda_cons evd_int (evda_cons evd_int evda_nil)))) (by decide)) (evda_cons (evd_lst (evda_cons evd_int (evda_cons evd_int (evda_cons evd_int (evda_cons evd_int evda_nil)))) (by decide)) evda_nil)) (by decide)) (by decide)) H6 Ext.rfl' _ fun v5 H7 e7 d5 => ?_
      have d2 : Dq H7 v2 (.list someDs) := d2.ext (((e5.tr e6).tr e7))
      refine lcL_data toldD (evd_var rfl d2) (by decide) (fun _ => rfl) (fun D v d H8 R e8 nD hd dq r => ?_) (fun D H8 e8 d8 => ?_)
      · refine ⟨_, rfl, v, d, rfl, dq, some_sm d hd, fun L H9 e9 nL hL => ⟨L, rfl, ⟨_, SqL.of hL⟩, fun D2 nD2 => ?_⟩⟩
        refine lc_list (K := K) (a := L) (xs := (four d).map V.bl) (fun n H4 => Ext H9 H4 ∧ H4 D2 = some (.lst (((four d).take n).map fun b => V.int (b2i b)))) ⟨Ext.nw nD2, upd_same⟩ (fun n H4 _ p => SqL.of (p.1 _ _ hL)) (fun n x H4 hx p => ?_) (fun H4 p => ?_)
        · rw [List.getElem?_map] at hx
          cases hb : (four d)[n]? with
          | none =>
            rw [hb] at hx
            cases hx
          | some b =>
            rw [hb] at hx
            cases hx
            refine ⟨rfl, ?_⟩
            unfold tYes
            dsimp only
            rw [if_pos (rfl : true = true)]
            refine ⟨_, rfl, .inr ⟨b, rfl, _, p.2, ?_, p.1.mut nD2, ?_⟩⟩
            · rw [List.length_map, List.length_take]
              exact lt_line (Nat.le_trans (Nat.min_le_right _ _) (show 4 ≤ 100000 by decide))
            · rw [upd_same, List.take_add_one, hb, List.map_append]
              rfl
        · have nn : D2 ≠ D := fun e => by
            have z := (Hid.ext (D := D) (S := [D]) ⟨List.mem_cons_self, fun x hx => by rw [List.mem_singleton.mp hx]; exact nD⟩ e9).tr D List.mem_cons_self
            rw [← e] at z
            exact z nD2
          have p2 := p.2
          rw [List.length_map, List.take_length] at p2
          exact r _ H4 (e9.tr p.1) (.lst (by rw [hide_ne (fun z => nn (List.mem_singleton.mp z))]; exact p2) (dqa_b2i _))
      · try dsimp only [tSeq, tIfS, tTest, tNext, gName_app]
        refine op_c ?_
        refine lcL_map (ds := wordsDs) (fun d => V.bl (nameD d)) (evd_lst (evda_cons evd_str (evda_cons evd_str (evda_cons evd_str (evda_cons evd_str (evda_cons evd_str (evda_cons evd_str (evda_cons evd_str evda_nil))))))) (by decide)) (by decide) (fun _ => rfl) (fun v d H9 R e9 hd dq r => ⟨v, rfl, v, d, rfl, dq, words_sm d hd, r⟩) (fun L H9 e9 hL => ?_)
        refine ⟨L, _, rfl, .inl (SqL.of hL), rfl, rfl, _, rfl, ?_⟩
        refine ite_b (fun e => absurd words_no (by rw [show inV _ _ = true from e]; decide)) (fun _ => ?_)
        refine ⟨_, rfl, _, rfl, .list (someDs.map toldD), .list dueDs, dq_dp (d8.ext e9) (by decide +kernel), dq_dp (d5.ext (e8.tr e9)) (by decide +kernel), by decide +kernel, by decide +kernel, _, rfl, ?_⟩
        refine ite_b (fun _ => ⟨rfl, _, rfl, ite_b (fun _ => ⟨rfl, ?_⟩) (fun e => absurd rfl (of_decide_eq_false e))⟩) (fun e => absurd told_due (by rw [show PyData.eqv _ _ = false from e]; decide))
        exact q_is (a := true) (decide_eq_true rfl).symm (q H9)
end
/-! ### the top -/
set_option maxHeartbeats 4000000 in
theorem all_mk {l : PySem.W.OpenLaw} {w : World} {K : PySem.W.Frag} {h : Heap} {mg : Str → Option Value} {fa : Addr} (X : K.In h) (G : h.Ns mainGlobals mg) (hfa : mg "law" = some (.ref fa))
    {f_is_tuple f_is_name f_is_integer f_is_row f_is_result f_dice f_roll f_pick f_judge_integer f_judge_name f_judge_row f_judge_result f_number f_odd f_put_at f_some_name f_some_row f_some_result f_told f_due f_right f_law : Addr}
    {od_is_tuple an_is_tuple od_is_name an_is_name od_is_integer an_is_integer od_is_row an_is_row od_is_result an_is_result od_dice an_dice od_roll an_roll od_pick an_pick od_judge_integer an_judge_integer od_judge_name an_judge_name od_judge_row an_judge_row od_judge_result an_judge_result od_number an_number od_odd an_odd od_put_at an_put_at od_some_name an_some_name od_some_row an_some_row od_some_result an_some_result od_told an_told od_due an_due od_right an_right od_law an_law : Option Addr} {sl_is_tuple sl_is_name sl_is_integer sl_is_row sl_is_result sl_dice sl_roll sl_pick sl_judge_integer sl_judge_name sl_judge_row sl_judge_result sl_number sl_odd sl_put_at sl_some_name sl_some_row sl_some_result sl_told sl_due sl_right sl_law : Array (Option Value)}
    {oc_is_tuple kV_is_tuple dc_is_tuple pm_is_tuple cd_is_tuple ct_is_tuple oc_is_name kV_is_name dc_is_name pm_is_name cd_is_name ct_is_name oc_is_integer kV_is_integer dc_is_integer pm_is_integer cd_is_integer ct_is_integer oc_is_row kV_is_row dc_is_row pm_is_row cd_is_row ct_is_row oc_is_result kV_is_result dc_is_result pm_is_result cd_is_result ct_is_result oc_dice kV_dice dc_dice pm_dice cd_dice ct_dice oc_roll kV_roll dc_roll pm_roll cd_roll ct_roll oc_pick kV_pick dc_pick pm_pick cd_pick ct_pick oc_judge_integer kV_judge_integer dc_judge_integer pm_judge_integer cd_judge_integer ct_judge_integer oc_judge_name kV_judge_name dc_judge_name pm_judge_name cd_judge_name ct_judge_name oc_judge_row kV_judge_row dc_judge_row pm_judge_row cd_judge_row ct_judge_row oc_judge_result kV_judge_result dc_judge_result pm_judge_result cd_judge_result ct_judge_result oc_number kV_number dc_number pm_number cd_number ct_number oc_odd kV_odd dc_odd pm_odd cd_odd ct_odd oc_put_at kV_put_at dc_put_at pm_put_at cd_put_at ct_put_at oc_some_name kV_some_name dc_some_name pm_some_name cd_some_name ct_some_name oc_some_row kV_some_row dc_some_row pm_some_row cd_some_row ct_some_row oc_some_result kV_some_result dc_some_result pm_some_result cd_some_result ct_some_result oc_told kV_told dc_told pm_told cd_told ct_told oc_due kV_due dc_due pm_due cd_due ct_due oc_right kV_right dc_right pm_right cd_right ct_right oc_law kV_law dc_law pm_law cd_law ct_law : Value}
    (a_is_tuple : PySem.W.nsIn K mainGlobals "is_tuple" = some (some (.ref f_is_tuple)))
    (l_is_tuple : K.lookup f_is_tuple = some ⟨oc_is_tuple, od_is_tuple, .func (PySem.W.fnOf "is_tuple" "is_tuple" (defArgs s_is_tuple) (defBody s_is_tuple) (defScope s_is_tuple) .none kV_is_tuple dc_is_tuple pm_is_tuple an_is_tuple cd_is_tuple ct_is_tuple), sl_is_tuple⟩)
    (c_is_tuple : PySem.W.codeIn K cd_is_tuple "is_tuple" = true) (k_is_tuple : PySem.W.keepIn K (.ref f_is_tuple) = true)
    (a_is_name : PySem.W.nsIn K mainGlobals "is_name" = some (some (.ref f_is_name)))
    (l_is_name : K.lookup f_is_name = some ⟨oc_is_name, od_is_name, .func (PySem.W.fnOf "is_name" "is_name" (defArgs s_is_name) (defBody s_is_name) (defScope s_is_name) .none kV_is_name dc_is_name pm_is_name an_is_name cd_is_name ct_is_name), sl_is_name⟩)
    (c_is_name : PySem.W.codeIn K cd_is_name "is_name" = true) (k_is_name : PySem.W.keepIn K (.ref f_is_name) = true)
    (a_is_integer : PySem.W.nsIn K mainGlobals "is_integer" = some (some (.ref f_is_integer)))
    (l_is_integer : K.lookup f_is_integer = some ⟨oc_is_integer, od_is_integer, .func (PySem.W.fnOf "is_integer" "is_integer" (defArgs s_is_integer) (defBody s_is_integer) (defScope s_is_integer) .none kV_is_integer dc_is_integer pm_is_integer an_is_integer cd_is_integer ct_is_integer), sl_is_integer⟩)
    (c_is_integer : PySem.W.codeIn K cd_is_integer "is_integer" = true) (k_is_integer : PySem.W.keepIn K (.ref f_is_integer) = true)
    (a_is_row : PySem.W.nsIn K mainGlobals "is_row" = some (some (.ref f_is_row)))
    (l_is_row : K.lookup f_is_row = some ⟨oc_is_row, od_is_row, .func (PySem.W.fnOf "is_row" "is_row" (defArgs s_is_row) (defBody s_is_row) (defScope s_is_row) .none kV_is_row dc_is_row pm_is_row an_is_row cd_is_row ct_is_row), sl_is_row⟩)
    (c_is_row : PySem.W.codeIn K cd_is_row "is_row" = true) (k_is_row : PySem.W.keepIn K (.ref f_is_row) = true)
    (a_is_result : PySem.W.nsIn K mainGlobals "is_result" = some (some (.ref f_is_result)))
    (l_is_result : K.lookup f_is_result = some ⟨oc_is_result, od_is_result, .func (PySem.W.fnOf "is_result" "is_result" (defArgs s_is_result) (defBody s_is_result) (defScope s_is_result) .none kV_is_result dc_is_result pm_is_result an_is_result cd_is_result ct_is_result), sl_is_result⟩)
    (c_is_result : PySem.W.codeIn K cd_is_result "is_result" = true) (k_is_result : PySem.W.keepIn K (.ref f_is_result) = true)
    (a_dice : PySem.W.nsIn K mainGlobals "_law_dice" = some (some (.ref f_dice)))
    (l_dice : K.lookup f_dice = some ⟨oc_dice, od_dice, .func (PySem.W.fnOf "_law_dice" "_law_dice" (defArgs s_dice) (defBody s_dice) (defScope s_dice) .none kV_dice dc_dice pm_dice an_dice cd_dice ct_dice), sl_dice⟩)
    (c_dice : PySem.W.codeIn K cd_dice "_law_dice" = true) (k_dice : PySem.W.keepIn K (.ref f_dice) = true)
    (a_roll : PySem.W.nsIn K mainGlobals "_law_roll" = some (some (.ref f_roll)))
    (l_roll : K.lookup f_roll = some ⟨oc_roll, od_roll, .func (PySem.W.fnOf "_law_roll" "_law_roll" (defArgs s_roll) (defBody s_roll) (defScope s_roll) .none kV_roll dc_roll pm_roll an_roll cd_roll ct_roll), sl_roll⟩)
    (c_roll : PySem.W.codeIn K cd_roll "_law_roll" = true) (k_roll : PySem.W.keepIn K (.ref f_roll) = true)
    (a_pick : PySem.W.nsIn K mainGlobals "_law_pick" = some (some (.ref f_pick)))
    (l_pick : K.lookup f_pick = some ⟨oc_pick, od_pick, .func (PySem.W.fnOf "_law_pick" "_law_pick" (defArgs s_pick) (defBody s_pick) (defScope s_pick) .none kV_pick dc_pick pm_pick an_pick cd_pick ct_pick), sl_pick⟩)
    (c_pick : PySem.W.codeIn K cd_pick "_law_pick" = true) (k_pick : PySem.W.keepIn K (.ref f_pick) = true)
    (a_judge_integer : PySem.W.nsIn K mainGlobals "_law_judge_integer" = some (some (.ref f_judge_integer)))
    (l_judge_integer : K.lookup f_judge_integer = some ⟨oc_judge_integer, od_judge_integer, .func (PySem.W.fnOf "_law_judge_integer" "_law_judge_integer" (defArgs s_judge_integer) (defBody s_judge_integer) (defScope s_judge_integer) .none kV_judge_integer dc_judge_integer pm_judge_integer an_judge_integer cd_judge_integer ct_judge_integer), sl_judge_integer⟩)
    (c_judge_integer : PySem.W.codeIn K cd_judge_integer "_law_judge_integer" = true) (k_judge_integer : PySem.W.keepIn K (.ref f_judge_integer) = true)
    (a_judge_name : PySem.W.nsIn K mainGlobals "_law_judge_name" = some (some (.ref f_judge_name)))
    (l_judge_name : K.lookup f_judge_name = some ⟨oc_judge_name, od_judge_name, .func (PySem.W.fnOf "_law_judge_name" "_law_judge_name" (defArgs s_judge_name) (defBody s_judge_name) (defScope s_judge_name) .none kV_judge_name dc_judge_name pm_judge_name an_judge_name cd_judge_name ct_judge_name), sl_judge_name⟩)
    (c_judge_name : PySem.W.codeIn K cd_judge_name "_law_judge_name" = true) (k_judge_name : PySem.W.keepIn K (.ref f_judge_name) = true)
    (a_judge_row : PySem.W.nsIn K mainGlobals "_law_judge_row" = some (some (.ref f_judge_row)))
    (l_judge_row : K.lookup f_judge_row = some ⟨oc_judge_row, od_judge_row, .func (PySem.W.fnOf "_law_judge_row" "_law_judge_row" (defArgs s_judge_row) (defBody s_judge_row) (defScope s_judge_row) .none kV_judge_row dc_judge_row pm_judge_row an_judge_row cd_judge_row ct_judge_row), sl_judge_row⟩)
    (c_judge_row : PySem.W.codeIn K cd_judge_row "_law_judge_row" = true) (k_judge_row : PySem.W.keepIn K (.ref f_judge_row) = true)
    (a_judge_result : PySem.W.nsIn K mainGlobals "_law_judge_result" = some (some (.ref f_judge_result)))
    (l_judge_result : K.lookup f_judge_result = some ⟨oc_judge_result, od_judge_result, .func (PySem.W.fnOf "_law_judge_result" "_law_judge_result" (defArgs s_judge_result) (defBody s_judge_result) (defScope s_judge_result) .none kV_judge_result dc_judge_result pm_judge_result an_judge_result cd_judge_result ct_judge_result), sl_judge_result⟩)
    (c_judge_result : PySem.W.codeIn K cd_judge_result "_law_judge_result" = true) (k_judge_result : PySem.W.keepIn K (.ref f_judge_result) = true)
    (a_number : PySem.W.nsIn K mainGlobals "_law_number" = some (some (.ref f_number)))
    (l_number : K.lookup f_number = some ⟨oc_number, od_number, .func (PySem.W.fnOf "_law_number" "_law_number" (defArgs s_number) (defBody s_number) (defScope s_number) .none kV_number dc_number pm_number an_number cd_number ct_number), sl_number⟩)
    (c_number : PySem.W.codeIn K cd_number "_law_number" = true) (k_number : PySem.W.keepIn K (.ref f_number) = true)
    (a_odd : PySem.W.nsIn K mainGlobals "_law_odd" = some (some (.ref f_odd)))
    (l_odd : K.lookup f_odd = some ⟨oc_odd, od_odd, .func (PySem.W.fnOf "_law_odd" "_law_odd" (defArgs s_odd) (defBody s_odd) (defScope s_odd) .none kV_odd dc_odd pm_odd an_odd cd_odd ct_odd), sl_odd⟩)
    (c_odd : PySem.W.codeIn K cd_odd "_law_odd" = true) (k_odd : PySem.W.keepIn K (.ref f_odd) = true)
    (a_put_at : PySem.W.nsIn K mainGlobals "_law_put_at" = some (some (.ref f_put_at)))
    (l_put_at : K.lookup f_put_at = some ⟨oc_put_at, od_put_at, .func (PySem.W.fnOf "_law_put_at" "_law_put_at" (defArgs s_put_at) (defBody s_put_at) (defScope s_put_at) .none kV_put_at dc_put_at pm_put_at an_put_at cd_put_at ct_put_at), sl_put_at⟩)
    (c_put_at : PySem.W.codeIn K cd_put_at "_law_put_at" = true) (k_put_at : PySem.W.keepIn K (.ref f_put_at) = true)
    (a_some_name : PySem.W.nsIn K mainGlobals "_law_some_name" = some (some (.ref f_some_name)))
    (l_some_name : K.lookup f_some_name = some ⟨oc_some_name, od_some_name, .func (PySem.W.fnOf "_law_some_name" "_law_some_name" (defArgs s_some_name) (defBody s_some_name) (defScope s_some_name) .none kV_some_name dc_some_name pm_some_name an_some_name cd_some_name ct_some_name), sl_some_name⟩)
    (c_some_name : PySem.W.codeIn K cd_some_name "_law_some_name" = true) (k_some_name : PySem.W.keepIn K (.ref f_some_name) = true)
    (a_some_row : PySem.W.nsIn K mainGlobals "_law_some_row" = some (some (.ref f_some_row)))
    (l_some_row : K.lookup f_some_row = some ⟨oc_some_row, od_some_row, .func (PySem.W.fnOf "_law_some_row" "_law_some_row" (defArgs s_some_row) (defBody s_some_row) (defScope s_some_row) .none kV_some_row dc_some_row pm_some_row an_some_row cd_some_row ct_some_row), sl_some_row⟩)
    (c_some_row : PySem.W.codeIn K cd_some_row "_law_some_row" = true) (k_some_row : PySem.W.keepIn K (.ref f_some_row) = true)
    (a_some_result : PySem.W.nsIn K mainGlobals "_law_some_result" = some (some (.ref f_some_result)))
    (l_some_result : K.lookup f_some_result = some ⟨oc_some_result, od_some_result, .func (PySem.W.fnOf "_law_some_result" "_law_some_result" (defArgs s_some_result) (defBody s_some_result) (defScope s_some_result) .none kV_some_result dc_some_result pm_some_result an_some_result cd_some_result ct_some_result), sl_some_result⟩)
    (c_some_result : PySem.W.codeIn K cd_some_result "_law_some_result" = true) (k_some_result : PySem.W.keepIn K (.ref f_some_result) = true)
    (a_told : PySem.W.nsIn K mainGlobals "_law_told" = some (some (.ref f_told)))
    (l_told : K.lookup f_told = some ⟨oc_told, od_told, .func (PySem.W.fnOf "_law_told" "_law_told" (defArgs s_told) (defBody s_told) (defScope s_told) .none kV_told dc_told pm_told an_told cd_told ct_told), sl_told⟩)
    (c_told : PySem.W.codeIn K cd_told "_law_told" = true) (k_told : PySem.W.keepIn K (.ref f_told) = true)
    (a_due : PySem.W.nsIn K mainGlobals "_law_due" = some (some (.ref f_due)))
    (l_due : K.lookup f_due = some ⟨oc_due, od_due, .func (PySem.W.fnOf "_law_due" "_law_due" (defArgs s_due) (defBody s_due) (defScope s_due) .none kV_due dc_due pm_due an_due cd_due ct_due), sl_due⟩)
    (c_due : PySem.W.codeIn K cd_due "_law_due" = true) (k_due : PySem.W.keepIn K (.ref f_due) = true)
    (a_right : PySem.W.nsIn K mainGlobals "_law_right" = some (some (.ref f_right)))
    (l_right : K.lookup f_right = some ⟨oc_right, od_right, .func (PySem.W.fnOf "_law_right" "_law_right" (defArgs s_right) (defBody s_right) (defScope s_right) .none kV_right dc_right pm_right an_right cd_right ct_right), sl_right⟩)
    (c_right : PySem.W.codeIn K cd_right "_law_right" = true) (k_right : PySem.W.keepIn K (.ref f_right) = true)
    (a_law : PySem.W.nsIn K mainGlobals "law" = some (some (.ref f_law)))
    (l_law : K.lookup f_law = some ⟨oc_law, od_law, .func (PySem.W.fnOf "law" "law" (defArgs s_law) (defBody s_law) (defScope s_law) .none kV_law dc_law pm_law an_law cd_law ct_law), sl_law⟩)
    (c_law : PySem.W.codeIn K cd_law "law" = true) (k_law : PySem.W.keepIn K (.ref f_law) = true)
    (z_abs : PySem.W.nsIn K mainGlobals "abs" = some none)
    (z_all : PySem.W.nsIn K mainGlobals "all" = some none)
    (z_bool : PySem.W.nsIn K mainGlobals "bool" = some none)
    (z_enumerate : PySem.W.nsIn K mainGlobals "enumerate" = some none)
    (z_int : PySem.W.nsIn K mainGlobals "int" = some none)
    (z_isinstance : PySem.W.nsIn K mainGlobals "isinstance" = some none)
    (z_len : PySem.W.nsIn K mainGlobals "len" = some none)
    (z_list : PySem.W.nsIn K mainGlobals "list" = some none)
    (z_max : PySem.W.nsIn K mainGlobals "max" = some none)
    (z_min : PySem.W.nsIn K mainGlobals "min" = some none)
    (z_range : PySem.W.nsIn K mainGlobals "range" = some none)
    (z_repr : PySem.W.nsIn K mainGlobals "repr" = some none)
    (z_str : PySem.W.nsIn K mainGlobals "str" = some none)
    (z_tuple : PySem.W.nsIn K mainGlobals "tuple" = some none)
    {t__MAX_LETTERS : Tok} (g__MAX_LETTERS : PySem.W.nsIn K mainGlobals "_MAX_LETTERS" = some (some (.int 8 t__MAX_LETTERS)))
    {t_MAX_COLUMNS : Tok} (g_MAX_COLUMNS : PySem.W.nsIn K mainGlobals "MAX_COLUMNS" = some (some (.int 6 t_MAX_COLUMNS)))
    {t_MAX_DIGITS : Tok} (g_MAX_DIGITS : PySem.W.nsIn K mainGlobals "MAX_DIGITS" = some (some (.int 60 t_MAX_DIGITS)))
    {t__MAX_ENTRIES : Tok} (g__MAX_ENTRIES : PySem.W.nsIn K mainGlobals "_MAX_ENTRIES" = some (some (.int 5 t__MAX_ENTRIES)))
    {t__LETTERS : Tok} (g__LETTERS : PySem.W.nsIn K mainGlobals "_LETTERS" = some (some (.str (Str.ofString "abcdefghijklmnopqrstuvwxyz") t__LETTERS)))
    {t__TOO_LONG : Tok} (g__TOO_LONG : PySem.W.nsIn K mainGlobals "_TOO_LONG" = some (some (.int (10 ^ 60) t__TOO_LONG)))
    : ∃ fd : FuncData, (∀ (s : Shared) (v : Value), BindsTo s fd ⟨[v], []⟩ [("_law_script", v)]) ∧ ∀ base : Heap, K.In base → base.Ns mainGlobals mg → FnG l.prog w K mg base CX0 6 fa fd ["_law_script"] (spLaw K) := by
  have e := hfa.symm.trans (PySem.W.mg_of X G a_law)
  cases e
  have F_is_tuple := fun_mk (st := s_is_tuple) l_is_tuple c_is_tuple k_is_tuple
  have b_is_tuple := F_is_tuple.binds (ps := P_is_tuple) fun _ _ _ _ _ _ us hl => match us, hl with | [_, _, _], _ => rfl
  have F_is_name := fun_mk (st := s_is_name) l_is_name c_is_name k_is_name
  have b_is_name := F_is_name.binds (ps := P_is_name) fun _ _ _ _ _ _ us hl => match us, hl with | [_], _ => rfl
  have F_is_integer := fun_mk (st := s_is_integer) l_is_integer c_is_integer k_is_integer
  have b_is_integer := F_is_integer.binds (ps := P_is_integer) fun _ _ _ _ _ _ us hl => match us, hl with | [_], _ => rfl
  have F_is_row := fun_mk (st := s_is_row) l_is_row c_is_row k_is_row
  have b_is_row := F_is_row.binds (ps := P_is_row) fun _ _ _ _ _ _ us hl => match us, hl with | [_], _ => rfl
  have F_is_result := fun_mk (st := s_is_result) l_is_result c_is_result k_is_result
  have b_is_result := F_is_result.binds (ps := P_is_result) fun _ _ _ _ _ _ us hl => match us, hl with | [_], _ => rfl
  have F_dice := fun_mk (st := s_dice) l_dice c_dice k_dice
  have b_dice := F_dice.binds (ps := P_dice) fun _ _ _ _ _ _ us hl => match us, hl with | [_, _], _ => rfl
  have F_roll := fun_mk (st := s_roll) l_roll c_roll k_roll
  have b_roll := F_roll.binds (ps := P_roll) fun _ _ _ _ _ _ us hl => match us, hl with | [_, _], _ => rfl
  have F_pick := fun_mk (st := s_pick) l_pick c_pick k_pick
  have b_pick := F_pick.binds (ps := P_pick) fun _ _ _ _ _ _ us hl => match us, hl with | [_, _], _ => rfl
  have F_judge_integer := fun_mk (st := s_judge_integer) l_judge_integer c_judge_integer k_judge_integer
  have b_judge_integer := F_judge_integer.binds (ps := P_judge_integer) fun _ _ _ _ _ _ us hl => match us, hl with | [_], _ => rfl
  have F_judge_name := fun_mk (st := s_judge_name) l_judge_name c_judge_name k_judge_name
  have b_judge_name := F_judge_name.binds (ps := P_judge_name) fun _ _ _ _ _ _ us hl => match us, hl with | [_], _ => rfl
  have F_judge_row := fun_mk (st := s_judge_row) l_judge_row c_judge_row k_judge_row
  have b_judge_row := F_judge_row.binds (ps := P_judge_row) fun _ _ _ _ _ _ us hl => match us, hl with | [_], _ => rfl
  have F_judge_result := fun_mk (st := s_judge_result) l_judge_result c_judge_result k_judge_result
  have b_judge_result := F_judge_result.binds (ps := P_judge_result) fun _ _ _ _ _ _ us hl => match us, hl with | [_], _ => rfl
  have F_number := fun_mk (st := s_number) l_number c_number k_number
  have b_number := F_number.binds (ps := P_number) fun _ _ _ _ _ _ us hl => match us, hl with | [_], _ => rfl
  have F_odd := fun_mk (st := s_odd) l_odd c_odd k_odd
  have b_odd := F_odd.binds (ps := P_odd) fun _ _ _ _ _ _ us hl => match us, hl with | [_], _ => rfl
  have F_put_at := fun_mk (st := s_put_at) l_put_at c_put_at k_put_at
  have b_put_at := F_put_at.binds (ps := P_put_at) fun _ _ _ _ _ _ us hl => match us, hl with | [_, _, _], _ => rfl
  have F_some_name := fun_mk (st := s_some_name) l_some_name c_some_name k_some_name
  have b_some_name := F_some_name.binds (ps := P_some_name) fun _ _ _ _ _ _ us hl => match us, hl with | [_], _ => rfl
  have F_some_row := fun_mk (st := s_some_row) l_some_row c_some_row k_some_row
  have b_some_row := F_some_row.binds (ps := P_some_row) fun _ _ _ _ _ _ us hl => match us, hl with | [_], _ => rfl
  have F_some_result := fun_mk (st := s_some_result) l_some_result c_some_result k_some_result
  have b_some_result := F_some_result.binds (ps := P_some_result) fun _ _ _ _ _ _ us hl => match us, hl with | [_], _ => rfl
  have F_told := fun_mk (st := s_told) l_told c_told k_told
  have b_told := F_told.binds (ps := P_told) fun _ _ _ _ _ _ us hl => match us, hl with | [_], _ => rfl
  have F_due := fun_mk (st := s_due) l_due c_due k_due
  have b_due := F_due.binds (ps := P_due) fun _ _ _ _ _ _ us hl => match us, hl with | [_], _ => rfl
  have F_right := fun_mk (st := s_right) l_right c_right k_right
  have b_right := F_right.binds (ps := P_right) fun _ _ _ _ _ _ us hl => match us, hl with | [_], _ => rfl
  have F_law := fun_mk (st := s_law) l_law c_law k_law
  have b_law := F_law.binds (ps := P_law) fun _ _ _ _ _ _ us hl => match us, hl with | [_], _ => rfl
  let A : Adr := ⟨f_is_tuple, PySem.W.fnOf "is_tuple" "is_tuple" (defArgs s_is_tuple) (defBody s_is_tuple) (defScope s_is_tuple) .none kV_is_tuple dc_is_tuple pm_is_tuple an_is_tuple cd_is_tuple ct_is_tuple,
    f_is_name, PySem.W.fnOf "is_name" "is_name" (defArgs s_is_name) (defBody s_is_name) (defScope s_is_name) .none kV_is_name dc_is_name pm_is_name an_is_name cd_is_name ct_is_name,
    f_is_integer, PySem.W.fnOf "is_integer" "is_integer" (defArgs s_is_integer) (defBody s_is_integer) (defScope s_is_integer) .none kV_is_integer dc_is_integer pm_is_integer an_is_integer cd_is_integer ct_is_integer,
    f_is_row, PySem.W.fnOf "is_row" "is_row" (defArgs s_is_row) (defBody s_is_row) (defScope s_is_row) .none kV_is_row dc_is_row pm_is_row an_is_row cd_is_row ct_is_row,
    f_is_result, PySem.W.fnOf "is_result" "is_result" (defArgs s_is_result) (defBody s_is_result) (defScope s_is_result) .none kV_is_result dc_is_result pm_is_result an_is_result cd_is_result ct_is_result,
    f_dice, PySem.W.fnOf "_law_dice" "_law_dice" (defArgs s_dice) (defBody s_dice) (defScope s_dice) .none kV_dice dc_dice pm_dice an_dice cd_dice ct_dice,
    f_roll, PySem.W.fnOf "_law_roll" "_law_roll" (defArgs s_roll) (defBody s_roll) (defScope s_roll) .none kV_roll dc_roll pm_roll an_roll cd_roll ct_roll,
    f_pick, PySem.W.fnOf "_law_pick" "_law_pick" (defArgs s_pick) (defBody s_pick) (defScope s_pick) .none kV_pick dc_pick pm_pick an_pick cd_pick ct_pick,
    f_judge_integer, PySem.W.fnOf "_law_judge_integer" "_law_judge_integer" (defArgs s_judge_integer) (defBody s_judge_integer) (defScope s_judge_integer) .none kV_judge_integer dc_judge_integer pm_judge_integer an_judge_integer cd_judge_integer ct_judge_integer,
    f_judge_name, PySem.W.fnOf "_law_judge_name" "_law_judge_name" (defArgs s_judge_name) (defBody s_judge_name) (defScope s_judge_name) .none kV_judge_name dc_judge_name pm_judge_name an_judge_name cd_judge_name ct_judge_name,
    f_judge_row, PySem.W.fnOf "_law_judge_row" "_law_judge_row" (defArgs s_judge_row) (defBody s_judge_row) (defScope s_judge_row) .none kV_judge_row dc_judge_row pm_judge_row an_judge_row cd_judge_row ct_judge_row,
    f_judge_result, PySem.W.fnOf "_law_judge_result" "_law_judge_result" (defArgs s_judge_result) (defBody s_judge_result) (defScope s_judge_result) .none kV_judge_result dc_judge_result pm_judge_result an_judge_result cd_judge_result ct_judge_result,
    f_number, PySem.W.fnOf "_law_number" "_law_number" (defArgs s_number) (defBody s_number) (defScope s_number) .none kV_number dc_number pm_number an_number cd_number ct_number,
    f_odd, PySem.W.fnOf "_law_odd" "_law_odd" (defArgs s_odd) (defBody s_odd) (defScope s_odd) .none kV_odd dc_odd pm_odd an_odd cd_odd ct_odd,
    f_put_at, PySem.W.fnOf "_law_put_at" "_law_put_at" (defArgs s_put_at) (defBody s_put_at) (defScope s_put_at) .none kV_put_at dc_put_at pm_put_at an_put_at cd_put_at ct_put_at,
    f_some_name, PySem.W.fnOf "_law_some_name" "_law_some_name" (defArgs s_some_name) (defBody s_some_name) (defScope s_some_name) .none kV_some_name dc_some_name pm_some_name an_some_name cd_some_name ct_some_name,
    f_some_row, PySem.W.fnOf "_law_some_row" "_law_some_row" (defArgs s_some_row) (defBody s_some_row) (defScope s_some_row) .none kV_some_row dc_some_row pm_some_row an_some_row cd_some_row ct_some_row,
    f_some_result, PySem.W.fnOf "_law_some_result" "_law_some_result" (defArgs s_some_result) (defBody s_some_result) (defScope s_some_result) .none kV_some_result dc_some_result pm_some_result an_some_result cd_some_result ct_some_result,
    f_told, PySem.W.fnOf "_law_told" "_law_told" (defArgs s_told) (defBody s_told) (defScope s_told) .none kV_told dc_told pm_told an_told cd_told ct_told,
    f_due, PySem.W.fnOf "_law_due" "_law_due" (defArgs s_due) (defBody s_due) (defScope s_due) .none kV_due dc_due pm_due an_due cd_due ct_due,
    f_right, PySem.W.fnOf "_law_right" "_law_right" (defArgs s_right) (defBody s_right) (defScope s_right) .none kV_right dc_right pm_right an_right cd_right ct_right,
    fa, PySem.W.fnOf "law" "law" (defArgs s_law) (defBody s_law) (defScope s_law) .none kV_law dc_law pm_law an_law cd_law ct_law⟩
  have T : Txt K mg A := ⟨⟨F_is_tuple, b_is_tuple, PySem.W.mg_of X G a_is_tuple⟩,
    ⟨F_is_name, b_is_name, PySem.W.mg_of X G a_is_name⟩,
    ⟨F_is_integer, b_is_integer, PySem.W.mg_of X G a_is_integer⟩,
    ⟨F_is_row, b_is_row, PySem.W.mg_of X G a_is_row⟩,
    ⟨F_is_result, b_is_result, PySem.W.mg_of X G a_is_result⟩,
    ⟨F_dice, b_dice, PySem.W.mg_of X G a_dice⟩,
    ⟨F_roll, b_roll, PySem.W.mg_of X G a_roll⟩,
    ⟨F_pick, b_pick, PySem.W.mg_of X G a_pick⟩,
    ⟨F_judge_integer, b_judge_integer, PySem.W.mg_of X G a_judge_integer⟩,
    ⟨F_judge_name, b_judge_name, PySem.W.mg_of X G a_judge_name⟩,
    ⟨F_judge_row, b_judge_row, PySem.W.mg_of X G a_judge_row⟩,
    ⟨F_judge_result, b_judge_result, PySem.W.mg_of X G a_judge_result⟩,
    ⟨F_number, b_number, PySem.W.mg_of X G a_number⟩,
    ⟨F_odd, b_odd, PySem.W.mg_of X G a_odd⟩,
    ⟨F_put_at, b_put_at, PySem.W.mg_of X G a_put_at⟩,
    ⟨F_some_name, b_some_name, PySem.W.mg_of X G a_some_name⟩,
    ⟨F_some_row, b_some_row, PySem.W.mg_of X G a_some_row⟩,
    ⟨F_some_result, b_some_result, PySem.W.mg_of X G a_some_result⟩,
    ⟨F_told, b_told, PySem.W.mg_of X G a_told⟩,
    ⟨F_due, b_due, PySem.W.mg_of X G a_due⟩,
    ⟨F_right, b_right, PySem.W.mg_of X G a_right⟩,
    ⟨F_law, b_law, PySem.W.mg_of X G a_law⟩,
    PySem.W.mg_none_of X G z_abs,
    PySem.W.mg_none_of X G z_all,
    PySem.W.mg_none_of X G z_bool,
    PySem.W.mg_none_of X G z_enumerate,
    PySem.W.mg_none_of X G z_int,
    PySem.W.mg_none_of X G z_isinstance,
    PySem.W.mg_none_of X G z_len,
    PySem.W.mg_none_of X G z_list,
    PySem.W.mg_none_of X G z_max,
    PySem.W.mg_none_of X G z_min,
    PySem.W.mg_none_of X G z_range,
    PySem.W.mg_none_of X G z_repr,
    PySem.W.mg_none_of X G z_str,
    PySem.W.mg_none_of X G z_tuple,
    ⟨t__MAX_LETTERS, PySem.W.mg_of X G g__MAX_LETTERS⟩,
    ⟨t_MAX_COLUMNS, PySem.W.mg_of X G g_MAX_COLUMNS⟩,
    ⟨t_MAX_DIGITS, PySem.W.mg_of X G g_MAX_DIGITS⟩,
    ⟨t__MAX_ENTRIES, PySem.W.mg_of X G g__MAX_ENTRIES⟩,
    ⟨t__LETTERS, PySem.W.mg_of X G g__LETTERS⟩,
    ⟨t__TOO_LONG, PySem.W.mg_of X G g__TOO_LONG⟩⟩
  exact ⟨A.o_law, fun s v => .of_eq rfl, fun base _ _ => ok_law T⟩
end Law
open PySem PySem.W PyProof.Rows
set_option maxRecDepth 100000 in
set_option maxHeartbeats 0 in
theorem PySem.Challenge.cw_shelfroutes_k01_names_integers_rows_resu_holds : PySem.Challenge.rw_shelfroutes_k01_names_integers_rows_resu.Holds := by
  w_on; o_law; k_head; (case hw => w_witness2)
  k_fill
  refine Vf.walkG (l := PySem.Challenge.rw_shelfroutes_k01_names_integers_rows_resu) (n := 63) (k := 6) (x := "_law_script") (sp := Vf.spLaw) rfl (by decide) rfl ⟨rfl, by decide, by decide⟩ (fun w h Y => PySem.W.kIn_of Y) ?F (fun _ _ a ns hl _ hS => ⟨a, ns, rfl, hS, hl, fun _ => rfl⟩)
  case F =>
    intro w mg fa h KX G hmg
    refine' Law.all_mk KX G hmg ?a_is_tuple ?l_is_tuple ?c_is_tuple ?k_is_tuple ?a_is_name ?l_is_name ?c_is_name ?k_is_name ?a_is_integer ?l_is_integer ?c_is_integer ?k_is_integer ?a_is_row ?l_is_row ?c_is_row ?k_is_row ?a_is_result ?l_is_result ?c_is_result ?k_is_result ?a_dice ?l_dice ?c_dice ?k_dice ?a_roll ?l_roll ?c_roll ?k_roll ?a_pick ?l_pick ?c_pick ?k_pick ?a_judge_integer ?l_judge_integer ?c_judge_integer ?k_judge_integer ?a_judge_name ?l_judge_name ?c_judge_name ?k_judge_name ?a_judge_row ?l_judge_row ?c_judge_row ?k_judge_row ?a_judge_result ?l_judge_result ?c_judge_result ?k_judge_result ?a_number ?l_number ?c_number ?k_number ?a_odd ?l_odd ?c_odd ?k_odd ?a_put_at ?l_put_at ?c_put_at ?k_put_at ?a_some_name ?l_some_name ?c_some_name ?k_some_name ?a_some_row ?l_some_row ?c_some_row ?k_some_row ?a_some_result ?l_some_result ?c_some_result ?k_some_result ?a_told ?l_told ?c_told ?k_told ?a_due ?l_due ?c_due ?k_due ?a_right ?l_right ?c_right ?k_right ?a_law ?l_law ?c_law ?k_law ?z_abs ?z_all ?z_bool ?z_enumerate ?z_int ?z_isinstance ?z_len ?z_list ?z_max ?z_min ?z_range ?z_repr ?z_str ?z_tuple ?g__MAX_LETTERS ?g_MAX_COLUMNS ?g_MAX_DIGITS ?g__MAX_ENTRIES ?g__LETTERS ?g__TOO_LONG
    (case a_is_tuple => k_is)
    (case l_is_tuple => k_is)
    (case c_is_tuple => k_is)
    (case k_is_tuple => k_is)
    (case a_is_name => k_is)
    (case l_is_name => k_is)
    (case c_is_name => k_is)
    (case k_is_name => k_is)
    (case a_is_integer => k_is)
    (case l_is_integer => k_is)
    (case c_is_integer => k_is)
    (case k_is_integer => k_is)
    (case a_is_row => k_is)
    (case l_is_row => k_is)
    (case c_is_row => k_is)
    (case k_is_row => k_is)
    (case a_is_result => k_is)
    (case l_is_result => k_is)
    (case c_is_result => k_is)
    (case k_is_result => k_is)
    (case a_dice => k_is)
    (case l_dice => k_is)
    (case c_dice => k_is)
    (case k_dice => k_is)
    (case a_roll => k_is)
    (case l_roll => k_is)
    (case c_roll => k_is)
    (case k_roll => k_is)
    (case a_pick => k_is)
    (case l_pick => k_is)
    (case c_pick => k_is)
    (case k_pick => k_is)
    (case a_judge_integer => k_is)
    (case l_judge_integer => k_is)
    (case c_judge_integer => k_is)
    (case k_judge_integer => k_is)
    (case a_judge_name => k_is)
    (case l_judge_name => k_is)
    (case c_judge_name => k_is)
    (case k_judge_name => k_is)
    (case a_judge_row => k_is)
    (case l_judge_row => k_is)
    (case c_judge_row => k_is)
    (case k_judge_row => k_is)
    (case a_judge_result => k_is)
    (case l_judge_result => k_is)
    (case c_judge_result => k_is)
    (case k_judge_result => k_is)
    (case a_number => k_is)
    (case l_number => k_is)
    (case c_number => k_is)
    (case k_number => k_is)
    (case a_odd => k_is)
    (case l_odd => k_is)
    (case c_odd => k_is)
    (case k_odd => k_is)
    (case a_put_at => k_is)
    (case l_put_at => k_is)
    (case c_put_at => k_is)
    (case k_put_at => k_is)
    (case a_some_name => k_is)
    (case l_some_name => k_is)
    (case c_some_name => k_is)
    (case k_some_name => k_is)
    (case a_some_row => k_is)
    (case l_some_row => k_is)
    (case c_some_row => k_is)
    (case k_some_row => k_is)
    (case a_some_result => k_is)
    (case l_some_result => k_is)
    (case c_some_result => k_is)
    (case k_some_result => k_is)
    (case a_told => k_is)
    (case l_told => k_is)
    (case c_told => k_is)
    (case k_told => k_is)
    (case a_due => k_is)
    (case l_due => k_is)
    (case c_due => k_is)
    (case k_due => k_is)
    (case a_right => k_is)
    (case l_right => k_is)
    (case c_right => k_is)
    (case k_right => k_is)
    (case a_law => k_is)
    (case l_law => k_is)
    (case c_law => k_is)
    (case k_law => k_is)
    (case z_abs => k_is)
    (case z_all => k_is)
    (case z_bool => k_is)
    (case z_enumerate => k_is)
    (case z_int => k_is)
    (case z_isinstance => k_is)
    (case z_len => k_is)
    (case z_list => k_is)
    (case z_max => k_is)
    (case z_min => k_is)
    (case z_range => k_is)
    (case z_repr => k_is)
    (case z_str => k_is)
    (case z_tuple => k_is)
    (case g__MAX_LETTERS => k_is)
    (case g_MAX_COLUMNS => k_is)
    (case g_MAX_DIGITS => k_is)
    (case g__MAX_ENTRIES => k_is)
    (case g__LETTERS => k_is)
    (case g__TOO_LONG => k_is)


