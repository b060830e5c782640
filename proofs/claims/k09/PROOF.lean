import PyProof.Rows.All
import Wide.All
import OpenK.AllK
import Wide.FinOn
import HandS.ForMost
import HandS.EndBits
import HandS.IsInst
import HandS.Walk
import HandS.Wide
import HandS.TupLe
import PyProof.ReprRoads
import PyProof.Rows.RuleB_pow
import HandS.Exc
import HandS.ExcOwn
import HandS.ExcInit
import HandS.ExcIs
import HandS.ExcField
import KE.KExcPX
import HandS.SortOrd
import HandS.SortRule
import HandS.DictTup
import HandS.Property
import HandS.MakeKwOnly
import HandS.DictComp
import HandS.TupAny
import HandS.Text
import HandS.Iter
import HandS.RaiseMore
import HandS.TupSets
import HandS.Codes
import HandS.ExcInitHot
import HandS.HotCalls
import HandS.NestedHot
import HandS.Comp
import HandS.MakeKw
import PySem.Challenge.RW_maskwrites_k09_masks_made
set_option Elab.async false
set_option linter.all false
set_option maxRecDepth 100000
set_option maxHeartbeats 4000000
/-! My own rules: promises of defs that are called where no repr is under way; repr of data; great ints; the well of draws. -/
namespace Zk
open PySem PySem.Spec PyProof.Rows L2

/-! ### promises under «no repr is under way» -/
structure GOk (P : Program) (w : World) (K : PySem.W.Frag) (mg : Str → Option Value) (base : Heap) (CX : CXT) (k : Nat) (f : Addr) (fd : FuncData) (ps : List Str) (sp : Sp) : Prop where
  len : ∀ vs H Q E, sp vs H Q E → vs.length = ps.length
  go : ∀ (A : Around) (out : List Env) (s : Shared) (H : Hp) (ar : Args) (us : List Value) (vs : List V) (Q : VK) (E : XK), A.guards = some [] → Room k A → Env0 P w K mg base A out s H →
    BindsTo s fd ar (ps.zip us) → Vals vs us → sp vs H Q E → codeAny (model P w) A (.call (.ref f) ar) (CR CX out P w H s Q E) s

section
variable {CX : CXT} {P : Program} {w : World} {K : PySem.W.Frag} {mg : Str → Option Value} {base : Heap} {k : Nat} {f : Addr} {fd : FuncData} {ps : List Str} {sp : Sp}
theorem GOk.of (F : FnOk P w K mg base CX k f fd ps sp) : GOk P w K mg base CX k f fd ps sp :=
  ⟨F.len, fun A out s H ar us vs Q E _ => F.run A out s H ar us vs Q E⟩
theorem GOk.mono {j : Nat} (F : GOk P w K mg base CX j f fd ps sp) (h : j ≤ k) : GOk P w K mg base CX k f fd ps sp :=
  ⟨F.len, fun A out s H ar us vs Q E g hr => F.go A out s H ar us vs Q E g (hr.mono h)⟩
theorem GOk.imp {sp2 : Sp} (F : GOk P w K mg base CX k f fd ps sp) (h : ∀ vs H Q E, sp2 vs H Q E → sp vs H Q E) : GOk P w K mg base CX k f fd ps sp2 :=
  ⟨fun vs H Q E q => F.len vs H Q E (h _ _ _ _ q), fun A out s H ar us vs Q E g hr e b v q => F.go A out s H ar us vs Q E g hr e b v (h _ _ _ _ q)⟩
end

/-- the body of a def, walked where no repr is under way -/
theorem gn_of {CX : CXT} {P : Program} {w : World} {K : PySem.W.Frag} {mg : Str → Option Value} {base : Heap} {k : Nat} {f : Addr} {nm qual : Str} {prm : Arguments} {bd : List Stmt} {sc : Scope}
    {dV kV doc pm cdv ct oc : Value} {an od : Option Addr} {osl : Array (Option Value)} {N ps : List Str} {sp : Sp}
    (lk : K.lookup f = some ⟨oc, od, .func (PySem.W.fnOf nm qual prm bd sc dV kV doc pm an cdv ct), osl⟩) (hcd : PySem.W.codeIn K cdv qual = true) (S : FnScope N ps sc)
    (len : ∀ vs H Q E, sp vs H Q E → vs.length = ps.length)
    (hb : ∀ (A : Around) (out : List Env) (s : Shared) (H : Hp) (vs : List V) (Q : VK) (E : XK), A.guards = some [] → Room k (A.deeper (envOfC qual sc s.heap.objs.size f cdv)) → sp vs H Q E →
      ∃ t, PSs (cxOf CX P w K mg base N qual sc f cdv A out s H E) bd t ∧ t { nx := fun _ H' => Q .non H', rt := Q } (start N vs) H) :
    GOk P w K mg base CX (k + 1) f (PySem.W.fnOf nm qual prm bd sc dV kV doc pm an cdv ct) ps sp := by
  constructor
  · exact len
  intro A out s H ar us vs Q E hgd hr e0 bt rv hsp
  have hl := len _ _ _ _ hsp
  have bk : ∀ b o, base.get? b = some o → s.heap.get? b = some o := fun b o e => (e0.bs b o e).1
  have KX : K.In s.heap := e0.mod.kin.keeps bk
  have lim : s.heap.NoLimit := e0.mod.nolimit.keeps bk
  have hk : ∀ y ∈ ps.zip us, sc.names.lookup y.1 = some .local ∨ (sc.names.lookup y.1 = some .cell ∧ ((cellsFrom (s.heap.objs.size + 1) sc.names []).lookup y.1).isSome = true) := by
    rintro ⟨n, v⟩ hy
    rcases S.par n (List.of_mem_zip hy).1 with q | q
    · exact Or.inl q
    · exact Or.inr ⟨q, PySem.W.cellsFrom_some _ _ _ (Or.inl q)⟩
  refine codeAny_call_function hr.depth (KX _ _ lk) rfl S.co S.gen rfl (PySem.W.codeRec_of KX hcd) (bt _ _ _ _ ?_)
  refine wpAny_newFunctionEnv_cells S.kind hk fun env he s1 x => ?_
  subst he
  refine ⟨lim.keeps x.toInCall.keep, codeAny_func ?_⟩
  obtain ⟨t, ht, hq⟩ := hb A out s H vs Q E hgd (hr.deeper _) hsp
  have I := inv_start (CX := CX) (E := E) S hr.hd e0 hl rv x
  refine wpAny_mono (ht.run [] s1 (start N vs) H _ I hq) ?_ (fun e s' hs => hs)
  intro fl s' hs
  cases fl with
  | ret u =>
    obtain ⟨v, σ', H', J, rv', q⟩ := hs
    exact ⟨v, H', J.os, J.bare, J.base, J.hok, rv', q⟩
  | next =>
    obtain ⟨σ', H', J, q⟩ := hs
    exact ⟨V.non, H', J.os, J.bare, J.base, J.hok, rfl, q⟩
  | brk => obtain ⟨_, _, _, q⟩ := hs; exact q.elim
  | cont => obtain ⟨_, _, _, q⟩ := hs; exact q.elim

theorem Fun_okG {P : Program} {w : World} {K : PySem.W.Frag} {mg : Str → Option Value} {base : Heap} {x qual : Str} {st : Stmt} {f : Addr} {fd : FuncData} {N ps : List Str} {k : Nat} {sp : Sp}
    (F : Fun K x qual st f fd) (S : FnScope N ps (defScope st)) (len : ∀ vs H Q E, sp vs H Q E → vs.length = ps.length)
    (hb : ∀ (cdv : Value) (A : Around) (out : List Env) (s : Shared) (H : Hp) (vs : List V) (Q : VK) (E : XK), A.guards = some [] → Room k (A.deeper (envOfC qual (defScope st) s.heap.objs.size f cdv)) → sp vs H Q E →
      ∃ t, PSs (cxOf CX0 P w K mg base N qual (defScope st) f cdv A out s H E).nox (defBody st) t ∧ t { nx := fun _ H' => Q .non H', rt := Q } (start N vs) H) :
    GOk P w K mg base CX0 (k + 1) f fd ps sp := by
  obtain ⟨oc, od, kV, doc, pm, an, cdv, ct, osl, rfl, lk, hcd⟩ := F.ex
  refine gn_of lk hcd S len fun A out s H vs Q E hg hr hsp => ?_
  obtain ⟨t, h, q⟩ := hb cdv A out s H vs Q E hg hr hsp
  exact ⟨t, h.nox, q⟩

section
variable {X : Cx} {CX : CXT} {k : Nat} {f : Addr} {fd : FuncData} {ps : List Str} {sp : Sp} {E : XK} {ds : List Value} {dvs : List V} {x : Str} {p pos : Pos} {e : Expr} {es : List Expr} {t : TA}
theorem run_gn {pins : List (Addr × Obj)} {σ : L2.St} {H : Hp} {s : Shared} {Q : VK} {us : List Value} {vs : List V} (F : GOk X.prog X.w X.K X.mg X.base CX k f fd ps sp) (hg : X.A.guards = some []) (hr : Room k X.A) (hb : Binds X.K fd ps ds)
    (hd : Vals dvs ds) (hx : Passes CX X E) (I : Inv X pins σ H s) (r : Vals vs us) (h : sp (vs ++ dvs) H Q E) : wpAny (model X.prog X.w) X.A (call (.ref f) us) (EP X pins σ Q) X.xe s := by
  have r2 := r.append hd
  have hl : (us ++ ds).length = ps.length := r2.length.symm.trans (F.len _ _ _ _ h)
  have z := F.go X.A X.stack s H ⟨us, []⟩ (us ++ ds) (vs ++ dvs) Q E hg hr I.env0 (hb s us I.kIn hl) r2 h
  refine wpAny_call (codeAny_mono z ?_)
  intro r s' hq
  match r, hq with
  | .error e, hq => exact hx pins σ H s e s' I hq
  | .ok (.ret u), hq => exact I.after hq
  | .ok .next, hq => exact False.elim hq
  | .ok .brk, hq => exact False.elim hq
  | .ok .cont, hq => exact False.elim hq
/-- f(e, ..) -/
theorem pg_call (F : GOk X.prog X.w X.K X.mg X.base CX k f fd ps sp) (hgd : X.A.guards = some []) (hr : Room k X.A) (hg : Gl X x) (hm : X.mg x = some (.ref f)) (hk : PySem.W.keepIn X.K (.ref f) = true)
    (hb : Binds X.K fd ps ds) (hd : Vals dvs ds) (hx : Passes CX X E) (ha : PA X (e :: es) t) (hdb : (x == ("__debug__" : Str)) = false := by decide)
    (he : starEach (e :: es) X.env = (false, eval e X.env) :: starEach es X.env := by rfl) (hpl : (backTo pos (starEach es X.env)).any (·.1) = false := by rfl) :
    PE X (.Call (.Name x p) (e :: es) [] pos) (tCall sp dvs E t) := by
  constructor
  intro pins s σ H Q I h
  refine wpAny_Call_Name_kw (ld_glob I hg hm ?_ hdb)
  refine PySem.W.callWith_K (h₀ := X.base) I.ok.mod.kin hk ?_ he hpl
  refine thn (ha.run pos pins s σ H _ I h) ?_
  rintro us s1 ⟨vs, H1, I1, r, q⟩
  exact ⟨I1.kIn, run_gn F hgd hr hb hd hx I1 r q⟩
theorem pg_call0 (F : GOk X.prog X.w X.K X.mg X.base CX k f fd ps sp) (hgd : X.A.guards = some []) (hr : Room k X.A) (hg : Gl X x) (hm : X.mg x = some (.ref f)) (hk : PySem.W.keepIn X.K (.ref f) = true)
    (hb : Binds X.K fd ps ds) (hd : Vals dvs ds) (hx : Passes CX X E) (hdb : (x == ("__debug__" : Str)) = false := by decide) :
    PE X (.Call (.Name x p) [] [] pos) (tCall sp dvs E tNil) := by
  constructor
  intro pins s σ H Q I h
  exact wpAny_Call_Name_kw (ld_glob I hg hm (PySem.W.callWith_K0 I.kIn hk (run_gn (us := []) F hgd hr hb hd hx I .nil h)) hdb)
end

/-! ### the law's own end -/
theorem law_go {P : Program} {w : World} {K : PySem.W.Frag} {mg mb : Str → Option Value} {CX : CXT} {k : Nat} {fa a : Addr} {fd : FuncData} {x : Str} {sp : Sp} {s1 : Shared} {vs : List Value} {ns : List Int}
    (KX : K.In s1.heap) (hns : s1.heap.Ns mainGlobals mg) (hb : s1.heap.Ns builtinsNs mb) (hbb : ∀ x : Str, x ≠ "__name__" → mb x = bootBuiltins x) (hlim : s1.heap.NoLimit) (hg : s1.gens = #[])
    (ha : s1.heap.get? a = some { cls := .type "list", data := .seq vs.toArray }) (hi : IntsAre vs ns) (hl : ns.length ≤ sizeLine) (hr : Room k callerA)
    (hsy : s1.heap.NoSeer) (F : ∀ b : Heap, K.In b → b.Ns mainGlobals mg → (∃ o, b.get? sysModules = some o) → GOk P w K mg b CX k fa fd [x] sp) (hbind : ∀ (s : Shared) (u : Value), BindsTo s fd ⟨[u], []⟩ [(x, u)])
    (hsp : ∀ H : Hp, Only H → SqL K H a (ns.map V.int) → sp [.ref a] H (fun v _ => v = .bl true) fun _ _ _ => False)
    (hCX : ∀ H e s', CX [] H s1 (fun _ _ _ => False) e s' → False) :
    codeAny (model P w) callerA (.call (.ref fa) ⟨[.ref a], []⟩) (fun r s' => r = .ok (.ret (.bool true)) ∧ OldK s1.heap s'.heap ∧ s'.os = s1.os ∧ AllBare s'.gens) s1 := by
  have rv := vals_ints hi
  have main : ∀ H : Hp, Only H → SqL K H a (ns.map V.int) → HOk P w H s1.heap → (∀ b, H b ≠ none → b = a) → (H a ≠ none → K.lookup a = none) →
      codeAny (model P w) callerA (.call (.ref fa) ⟨[.ref a], []⟩) (fun r s' => r = .ok (.ret (.bool true)) ∧ OldK s1.heap s'.heap ∧ s'.os = s1.os ∧ AllBare s'.gens) s1 := by
    intro H hO hS hok hA hK
    have keptB : ∀ {b : Addr} {o : Obj}, s1.heap.get? b = some o → H b = none → (hidT s1.heap H).get? b = some o := fun e n => hidT_get e n
    have notA : ∀ {b : Addr} {o : Obj} {es : Array DictEntry} {ep : Nat}, s1.heap.get? b = some o → o.data = .dict es ep → H b = none := by
      intro b o es ep e d
      cases q : H b with
      | none => rfl
      | some u =>
        obtain rfl : b = a := hA b (by rw [q]; exact fun z => nomatch z)
        rw [ha] at e
        cases e
        cases (show Data.seq vs.toArray _ = Data.dict es ep from d)
    have nsB : ∀ {b : Addr} {m : Str → Option Value}, s1.heap.Ns b m → (hidT s1.heap H).Ns b m := by
      rintro b m ⟨o, es, ep, e, d, r⟩
      exact ⟨o, es, ep, keptB e (notA e d), d, r⟩
    have hKb : K.In (hidT s1.heap H) := by
      intro b o e
      refine keptB (KX b o e) ?_
      cases q : H b with
      | none => rfl
      | some u =>
        obtain rfl : b = a := hA b (by rw [q]; exact fun z => nomatch z)
        rw [hK (by rw [q]; exact fun z => nomatch z)] at e
        cases e
    have hM : Mod K mg (hidT s1.heap H) := by
      obtain ⟨mc, l1, l2⟩ := hlim
      exact ⟨hKb, nsB hns, ⟨mb, nsB hb, hbb⟩, ⟨mc, nsB l1, l2⟩⟩
    have e0 : Env0 P w K mg (hidT s1.heap H) callerA [] s1 H :=
      ⟨rfl, hM, fun b o e => of_hidT e, Nat.le_of_eq (hidT_size _ _), trivial, fun b z => absurd (show b ∈ ([] : List Addr) from z) (by simp), hok, .of_eq hg⟩
    have sy : ∃ o, (hidT s1.heap H).get? sysModules = some o := by
      obtain ⟨_, ⟨o, es, ep, e, d, _⟩, _⟩ := hsy.mods
      exact ⟨o, keptB e (notA e d)⟩
    have run := (F _ hKb (nsB hns) sy).go callerA [] s1 H ⟨[.ref a], []⟩ [.ref a] [.ref a] (fun v _ => v = .bl true) (fun _ _ _ => False) rfl hr e0 (hbind s1 (.ref a)) (.cons rfl .nil) (hsp H hO hS)
    refine codeAny_mono run ?_
    intro r s' h
    match r, h with
    | .error e, h => exact (hCX H e s' h).elim
    | .ok .next, h => exact False.elim h
    | .ok .brk, h => exact False.elim h
    | .ok .cont, h => exact False.elim h
    | .ok (.ret u), h =>
      obtain ⟨v, H', os, bare, un, hok', r', q⟩ := h
      obtain rfl : v = .bl true := q
      obtain rfl : u = Value.bool true := r'
      refine ⟨rfl, OldK.of_keep fun b o e => ?_, os, bare⟩
      cases q : H b with
      | none => exact un.keep b o e q (fun z => absurd (show b ∈ ([] : List Addr) from z) (by simp)) (by simp)
      | some u =>
        rcases hO b with z | ⟨ob, xs, z⟩
        · rw [q] at z
          cases z
        · obtain ⟨e1, _⟩ := hok b _ z
          obtain ⟨e2, _⟩ := hok' b _ (un.frzs b ob _ z)
          rw [e] at e1
          cases e1
          exact e2
  cases hk : K.lookup a with
  | some o =>
    have e := KX a o hk
    rw [ha] at e
    cases e
    exact main (fun _ => none) (fun _ => .inl rfl) (.inr ⟨_, vs.toArray, _, hk, rfl, rfl, rfl, by rw [List.size_toArray, hi.length]; exact hl, by simpa using rv⟩)
      (fun b u z => by cases (show (none : Option HO) = some u from z)) (fun b z => absurd rfl z) fun z => absurd rfl z
  | none =>
    have ones : ∀ b : Addr, b ≠ a → (if b = a then some (HO.frz { cls := .type "list", data := .seq vs.toArray } (.lst (ns.map V.int))) else none) = none := fun b z => if_neg z
    refine main (fun b => if b = a then some (HO.frz { cls := .type "list", data := .seq vs.toArray } (.lst (ns.map V.int))) else none) ?_ (.inl (.inr ⟨_, if_pos rfl⟩)) ?_ ?_ fun _ => hk
    · intro b
      by_cases z : b = a
      · exact .inr ⟨_, _, if_pos z⟩
      · exact .inl (ones b z)
    · intro b u z
      by_cases y : b = a
      · subst y
        cases (if_pos rfl).symm.trans z
        exact ⟨ha, by rw [List.length_map]; exact hl, vs, _, rv, ha⟩
      · cases (ones b y).symm.trans z
    · intro b z
      by_cases y : b = a
      · exact y
      · exact absurd (ones b y) z
theorem walk_go {l : PySem.W.OpenLaw} {n k : Nat} {q : Program} {loose : List Str} {XP : (Str → Option Value) → Heap → Prop} {YP : World → Heap → Prop} {d : DefRec} {K : Params → PySem.W.Frag} {x : Str} {sp : World → Sp}
    (hn : l.most = some n) (hn2 : n ≤ sizeLine) (him : importsNone q = true) (hdf : d.params.defaults = []) (hr : Room k callerA) (hY : ∀ (w : World) (h : Heap), YP w h → (K w.params).In h)
    (F : ∀ (w : World) (mg : Str → Option Value) (fa : Addr) (h : Heap), (K w.params).In h → h.Ns mainGlobals mg → mg d.name = some (.ref fa) →
      ∃ fd : FuncData, (∀ (s : Shared) (u : Value), BindsTo s fd ⟨[u], []⟩ [(x, u)]) ∧
        ∀ b : Heap, (K w.params).In b → b.Ns mainGlobals mg → (∃ o, b.get? sysModules = some o) → GOk l.prog w (K w.params) mg b CX0 k fa fd [x] (sp w))
    (hsp : ∀ (w : World) (H : Hp) (a : Addr) (ns : List Int), ns.length ≤ n → (∀ z ∈ ns, Builtin.Int.intBits z ≤ 1048576) → Only H → SqL (K w.params) H a (ns.map V.int) → sp w [.ref a] H (fun v _ => v = .bl true) fun _ _ _ => False) :
    PySem.W.WalkO q loose XP YP l.row.toRowW d [] (fun f vs => PySem.call f vs) := by
  refine Att.attach_callB hn hdf ?_
  intro w s0 s1 mg mb fa o pm cd doc a vs ns G Y ho hd hcd hmg hobj hints hlen hbits hg
  have KX := hY w _ Y
  obtain ⟨fd, hb, hF⟩ := F w mg fa _ KX G.T.g hmg
  exact law_go KX G.T.g G.T.b G.T.builtins G.T.nolimit hg hobj hints (Nat.le_trans hlen hn2) hr (G.T.seer him) hF hb (fun H hO hS => hsp w H a ns hlen hbits hO hS) fun _ _ _ z => z
end Zk
set_option maxHeartbeats 4000000
namespace Zk
open PySem PySem.Spec PyProof.Rows L2

/-! ### data at any depth, dicts too -/
def keyD : Key → PyData
  | .inl i => .int i
  | .inr x => .str x
mutual
inductive Dx (H : Hp) : V → PyData → Prop
  | non : Dx H .non .none
  | bl (b : Bool) : Dx H (.bl b) (.bool b)
  | int (i : Int) : Dx H (.int i) (.int i)
  | str (x : Str) : Dx H (.str x) (.str x)
  | lst {a : Addr} {xs : List V} {ds : List PyData} : Rd H a (.lst xs) → DxA H xs ds → Dx H (.ref a) (.list ds)
  | tup {a : Addr} {xs : List V} {ds : List PyData} : Rd H a (.tup xs) → DxA H xs ds → Dx H (.ref a) (.tuple ds)
  | dic {a : Addr} {kvs : List (Key × V)} {ds : List (PyData × PyData)} : Rd H a (.dK kvs) → DxK H kvs ds → Dx H (.ref a) (.dict ds)
inductive DxA (H : Hp) : List V → List PyData → Prop
  | nil : DxA H [] []
  | cons {v : V} {vs : List V} {d : PyData} {ds : List PyData} : Dx H v d → DxA H vs ds → DxA H (v :: vs) (d :: ds)
inductive DxK (H : Hp) : List (Key × V) → List (PyData × PyData) → Prop
  | nil : DxK H [] []
  | cons {k : Key} {v : V} {kvs : List (Key × V)} {d : PyData} {ds : List (PyData × PyData)} : Dx H v d → DxK H kvs ds → DxK H ((k, v) :: kvs) ((keyD k, d) :: ds)
end
theorem rd_same {H H' : Hp} {a : Addr} {o : HO} (e : Same H H') (h : Rd H a o) : Rd H' a o := by
  rcases h with h | ⟨u, h⟩
  · exact .inl (e _ _ h)
  · exact .inr ⟨u, e _ _ h⟩
mutual
theorem Dx.mono {H H' : Hp} (e : Same H H') : ∀ {d : PyData} {v : V}, Dx H v d → Dx H' v d
  | _, _, .non => .non
  | _, _, .bl b => .bl b
  | _, _, .int i => .int i
  | _, _, .str x => .str x
  | _, _, .lst h r => .lst (rd_same e h) (DxA.mono e r)
  | _, _, .tup h r => .tup (rd_same e h) (DxA.mono e r)
  | _, _, .dic h r => .dic (rd_same e h) (DxK.mono e r)
theorem DxA.mono {H H' : Hp} (e : Same H H') : ∀ {ds : List PyData} {vs : List V}, DxA H vs ds → DxA H' vs ds
  | _, _, .nil => .nil
  | _, _, .cons h r => .cons (Dx.mono e h) (DxA.mono e r)
theorem DxK.mono {H H' : Hp} (e : Same H H') : ∀ {ds : List (PyData × PyData)} {vs : List (Key × V)}, DxK H vs ds → DxK H' vs ds
  | _, _, .nil => .nil
  | _, _, .cons h r => .cons (Dx.mono e h) (DxK.mono e r)
end
mutual
def hasL : PyData → Bool
  | .list _ => true
  | .tuple xs => hasLA xs
  | .dict kvs => hasLK kvs
  | _ => false
def hasLA : List PyData → Bool
  | [] => false
  | x :: xs => hasL x || hasLA xs
def hasLK : List (PyData × PyData) → Bool
  | [] => false
  | (_, v) :: r => hasL v || hasLK r
end
section
variable {X : Cx} {pins : List (Addr × Obj)} {σ : L2.St} {H : Hp} {s : Shared}
theorem no_sys (I : Inv X pins σ H s) (hs : ∃ o, X.base.get? sysModules = some o) {a : Addr} {u : HO} (r : Rd H a u) : a ≠ sysModules := by
  rintro rfl
  obtain ⟨o, e⟩ := hs
  have n := (I.bs _ o e).2
  rcases r with r | ⟨_, r⟩
  · rw [n] at r
    cases r
  · rw [n] at r
    cases r
mutual
theorem Dx.reads (I : Inv X pins σ H s) (G L : Prop) (hs : L → G → ∃ o, X.base.get? sysModules = some o) : ∀ (d : PyData) (v : V) (u : Value), Dx H v d → RelV v u → (hasL d = true → L) → ∃ as, Reads s.heap u d as ∧ (G → sysModules ∉ as)
  | .none, _, _, .non, rfl, _ => ⟨_, Reads.none, fun _ z => nomatch z⟩
  | .bool b, _, _, .bl _, rfl, _ => ⟨_, Reads.bool b, fun _ z => nomatch z⟩
  | .int i, _, _, .int _, ⟨t, rfl⟩, _ => ⟨_, Reads.int i t, fun _ z => nomatch z⟩
  | .str x, _, _, .str _, ⟨t, rfl⟩, _ => ⟨_, Reads.str x t, fun _ z => nomatch z⟩
  | .list ds, _, _, .lst (a := a) h r, rfl, hl => by
    obtain ⟨_, its, n, rv, e⟩ := h.ok I.hok
    obtain ⟨as, q, z⟩ := Dx.readsA I G L hs ds _ its r rv (fun _ => hl rfl)
    refine ⟨a :: as, Reads.list e rfl rfl q, fun y m => ?_⟩
    rcases List.mem_cons.mp m with m | m
    · exact no_sys I (hs (hl rfl) y) h m.symm
    · exact z y m
  | .tuple ds, _, _, .tup (a := a) h r, rfl, hl => by
    obtain ⟨_, its, rv, o, e, c, n, hd⟩ := h.ok I.hok
    obtain ⟨as, q, z⟩ := Dx.readsA I G L hs ds _ its r rv (fun y => hl (by simpa [hasL] using y))
    exact ⟨as, Reads.tuple e c hd q, z⟩
  | .dict ds, _, _, .dic (a := a) h r, rfl, hl => by
    obtain ⟨_, ns, vs, rv, o, es, ep, e, x, hd, _, ps, _⟩ := h.ok I.hok
    obtain ⟨as, bs, q1, q2, z⟩ := Dx.readsK I G L hs ds _ es.toList vs r ps rv (fun y => hl (by simpa [hasL] using y))
    refine ⟨a :: as ++ bs, Reads.dict e x.1 hd q1 q2, fun y m => ?_⟩
    rcases List.mem_append.mp m with m | m
    · rcases List.mem_cons.mp m with m | m
      · rw [← m] at ns
        exact absurd ns (by decide)
      · exact (z y).1 m
    · exact (z y).2 m
theorem Dx.readsA (I : Inv X pins σ H s) (G L : Prop) (hs : L → G → ∃ o, X.base.get? sysModules = some o) : ∀ (ds : List PyData) (vs : List V) (us : List Value), DxA H vs ds → Vals vs us → (hasLA ds = true → L) → ∃ as, ReadsAll s.heap us ds as ∧ (G → sysModules ∉ as)
  | [], _, _, .nil, .nil, _ => ⟨_, ReadsAll.nil, fun _ z => nomatch z⟩
  | d :: ds, _, _, .cons h r, .cons rv rs, hl => by
    obtain ⟨as, q1, z1⟩ := Dx.reads I G L hs d _ _ h rv (fun y => hl (by simp [hasLA, y]))
    obtain ⟨bs, q2, z2⟩ := Dx.readsA I G L hs ds _ _ r rs (fun y => hl (by simp [hasLA, y]))
    refine ⟨as ++ bs, ReadsAll.cons q1 q2, fun y m => ?_⟩
    rcases List.mem_append.mp m with m | m
    · exact z1 y m
    · exact z2 y m
theorem Dx.readsK (I : Inv X pins σ H s) (G L : Prop) (hs : L → G → ∃ o, X.base.get? sysModules = some o) : ∀ (ds : List (PyData × PyData)) (kvs : List (Key × V)) (es : List DictEntry) (vs : List (Key × Value)), DxK H kvs ds → Pairs (mixKind X.prog X.w) es vs → KV kvs vs → (hasLK ds = true → L) →
    ∃ as bs, ReadsAll s.heap (es.map (·.key)) (ds.map (·.1)) as ∧ ReadsAll s.heap (es.map (·.val)) (ds.map (·.2)) bs ∧ (G → sysModules ∉ as ∧ sysModules ∉ bs)
  | [], _, _, _, h, p, rv, _ => by
    cases h
    cases rv
    cases p
    exact ⟨_, _, ReadsAll.nil, ReadsAll.nil, fun _ => ⟨(fun z => nomatch z), (fun z => nomatch z)⟩⟩
  | kd :: ds, _, _, _, h, p, rv, hl => by
    cases h with
    | @cons k0 _ _ _ _ h r =>
      cases rv with
      | cons rv rs =>
        rename_i w2 vs2
        obtain ⟨k2, w2⟩ := w2
        obtain ⟨e1, rw2⟩ := rv
        cases p with
        | cons ki ve ps =>
          rename_i e es
          simp only at e1 rw2 ki ve
          subst e1
          have ki' : keyIs k0 e.key = true := ki
          subst ve
          obtain ⟨as, q1, z1⟩ := Dx.reads I G L hs _ _ _ h rw2 (fun y => hl (by simp [hasLK, y]))
          obtain ⟨bs, cs, q2, q3, z2⟩ := Dx.readsK I G L hs ds _ es _ r ps rs (fun y => hl (by simp [hasLK, y]))
          have rk : Reads s.heap e.key (keyD k0) [] := by
            rcases keyIs_shape ki' with ⟨i, t, a1, a2⟩ | ⟨x, t, a1, a2⟩
            · rw [a1, a2]
              exact Reads.int i t
            · rw [a1, a2]
              exact Reads.str x t
          refine ⟨[] ++ bs, as ++ cs, ReadsAll.cons rk q2, ReadsAll.cons q1 q3, fun y => ⟨fun m => ?_, fun m => ?_⟩⟩
          · exact (z2 y).1 (by simpa using m)
          · rcases List.mem_append.mp m with m | m
            · exact z1 y m
            · exact (z2 y).2 m
end

/-- repr(x) of data -/
def rRepr (S : Prop) : List V → Hp → VK → Prop := fun xs H Q => ∃ v d, xs = [v] ∧ Dx H v d ∧ d.showable = true ∧ d.shown.length ≤ sizeLine ∧ d.depth ≤ 40 ∧ (hasL d = true → d.hasDict = true → S) ∧ Q (.str d.shown) H
theorem call_repr {S : Prop} (hS : S → ∃ o, X.base.get? sysModules = some o) (hg : X.A.guards = some []) (hu : X.A.units + 64 < cLine) : CallR X (.builtin "repr") (rRepr S) := by
  intro pins s σ H xs us Q I r h
  obtain ⟨v, d, rfl, hd, sh, sz, dp, hS', q⟩ := h
  obtain ⟨u, rfl, rv⟩ := vals1 r
  have fin : ∀ (x : Str) (tk : Tok) (n : Nat), x = d.shown → EP X pins σ Q (.str x tk) { s with toks := n } := fun x tk n e => by
    subst e
    exact ⟨.str d.shown, H, I.tok _, ⟨_, rfl⟩, q⟩
  have big : ∀ {a : Addr}, RelV (.ref a) u → wpAny (model X.prog X.w) X.A (call (.builtin "repr") [u]) (EP X pins σ Q) X.xe s := fun {a} e => by
    obtain ⟨as, rd, hsm⟩ := Dx.reads I (d.hasDict = true) (hasL d = true) (fun y z => hS (hS' y z)) d v u hd rv id
    cases e
    exact repr_of_reads' rd sh hsm hg (by omega) (fun _ _ z => z) (fun h' t n k => ⟨.str d.shown, H, I.kept k, ⟨_, rfl⟩, q⟩) sz
  cases hd with
  | non =>
    cases rv
    exact PySem.P.repr_of_none (fin _ _ _ rfl)
  | bl b =>
    cases rv
    exact PySem.P.repr_of_bool (fin _ _ _ (by cases b <;> rfl))
  | int i =>
    obtain ⟨t, rfl⟩ := rv
    exact PySem.P.repr_of_int (by unfold PyData.showable at sh; exact of_decide_eq_true sh) (fin _ _ _ rfl)
  | str x =>
    obtain ⟨t, rfl⟩ := rv
    exact PySem.P.repr_of_str (fin _ _ _ rfl) sz
  | lst _ _ => exact big rv
  | tup _ _ => exact big rv
  | dic _ _ => exact big rv
/-- isinstance's class of data -/
def tyD : PyData → String
  | .none => "NoneType"
  | .bool _ => "bool"
  | .int _ => "int"
  | .str _ => "str"
  | .list _ => "list"
  | .tuple _ => "tuple"
  | .dict _ => "dict"
theorem Dx.ty {K : PySem.W.Frag} {v : V} {d : PyData} (h : Dx H v d) : TyX K H v (.type (tyD d)) := by
  cases h with
  | non => exact .base .non
  | bl b => exact .base (.bl b)
  | int i => exact .base (.int i)
  | str x => exact .base (.str x)
  | lst r _ =>
    rcases r with r | ⟨o, r⟩
    · exact .base (.lst r)
    · exact .base (.frz r)
  | tup r _ =>
    rcases r with r | ⟨o, r⟩
    · exact .base (.tup r)
    · exact .fTuple r
  | dic r _ =>
    rcases r with r | ⟨o, r⟩
    · exact .base (.dK r)
    · exact .fDict r
/-- isinstance(x, T) of data, T a built-in class -/
def rIsD : List V → Hp → VK → Prop := fun xs H Q => ∃ T v d b, xs = [v, .ty T] ∧ Dx H v d ∧ kitB (tyD d) T = some b ∧ Q (.bl b) H
theorem call_isD : CallR X (.builtin "isinstance") rIsD := by
  intro pins s σ H xs us Q I r h
  obtain ⟨T, v, d, b, rfl, hd, e, q⟩ := h
  exact call_isi pins s σ H _ us Q I r ⟨v, .ty T, _, _, b, rfl, .ty T, hd.ty, kit_ty e, q⟩
end

/-! ### great ints -/
section
variable {X : Cx}
abbrev bits (i : Int) : Nat := Builtin.Int.intBits i
theorem op_mulG : OpR X (binaryOp .Mult) (rI (fun i j => bits i + bits j ≤ 2 ^ 26) fun i j => .int (i * j)) := opI fun i j _ _ _ _ _ hc q => by
  refine mul_int q ?_
  unfold IntMulOk
  intro z
  rw [Bool.and_eq_true] at z
  have z2 := of_decide_eq_true z.2
  have e : bitsLine = 134217728 := by decide
  rw [e] at z2
  have hc' : bits i + bits j ≤ 67108864 := hc
  have c2 : ((Builtin.Int.intBits i + Builtin.Int.intBits j : Nat) : Int) ≤ 67108864 := Int.ofNat_le.mpr hc'
  omega
theorem op_powG : OpR X (binaryOp .Pow) (rI (fun i j => 0 ≤ j ∧ (bits i : Int) * j ≤ 2 ^ 27) fun i j => .int (i ^ j.toNat)) := opI fun i j _ _ _ _ _ hc q => pow_int hc.1 hc.2 q

/-- 'ab' * n -/
def rMulS : R2 := fun x y H Q => ∃ (z : Str) (n : Nat), x = .str z ∧ y = .int (n : Int) ∧ z.length * n ≤ 100000 ∧ n ≤ 100000 ∧ Q (.str (Txt.mul z n)) H
theorem op_mulS : OpR X (binaryOp .Mult) rMulS := by
  intro pins s σ H x y v u Q I rx ry h
  obtain ⟨z, n, rfl, rfl, hz, hn, q⟩ := h
  obtain ⟨t, rfl⟩ := rx
  obtain ⟨t', rfl⟩ := ry
  refine PySem.SB.mul ⟨?_, fun h1 _ => ?_, fun h1 _ => ?_⟩ fun t2 k => ⟨.str (Txt.mul z n), H, I.tok _, ⟨_, rfl⟩, q⟩
  · rw [decide_eq_false (by omega), decide_eq_false (by omega)]
    rfl
  · have hp : (0 : Int) < (n : Int) := by omega
    have h2 : (z.length : Int) ≤ (2 ^ 63 - 1) / (n : Int) := by
      refine (Int.le_ediv_iff_mul_le hp).mpr ?_
      have : ((z.length * n : Nat) : Int) ≤ 100000 := by omega
      rw [Int.natCast_mul] at this
      omega
    omega
  · have e : (n : Int).toNat = n := Int.toNat_natCast n
    rw [e]
    unfold Builtin.Str.tooLong
    have h3 := (show 100000 ≤ sizeLine by decide)
    exact decide_eq_false (by omega)
/-- the keys by which texts, numbers and flags are sorted -/
inductive KeyV (H : Hp) : V → V → Prop
  | str {a : Addr} (x : Str) : H a = some (.tup [.int x.length, .str x]) → KeyV H (.ref a) (.str x)
  | int (i : Int) : KeyV H (.int i) (.int i)
  | bl (b : Bool) : KeyV H (.bl b) (.bl b)
def befV : V → V → Bool
  | .str x, .str y => decide (x.length < y.length) || (decide (x.length = y.length) && decide (x.cps.toList < y.cps.toList))
  | .int i, .int j => decide (i < j)
  | .bl a, .bl b => decide (b2i a < b2i b)
  | _, _ => false
def sameK : V → V → Prop
  | .str _, .str _ => True
  | .int _, .int _ => True
  | .bl _, .bl _ => True
  | _, _ => False
def rLtK : R2 := fun x y H Q => ∃ a b, KeyV H x a ∧ KeyV H y b ∧ sameK a b ∧ Q (.bl (befV a b)) H
theorem op_ltK (hu : X.A.units < cLine) : OpR X (compareOp .Lt) rLtK := by
  intro pins s σ H x y v u Q I rx ry h
  obtain ⟨a, b, ka, kb, sk, q⟩ := h
  cases ka with
  | int i =>
    cases kb with
    | int j =>
      obtain ⟨t, rfl⟩ := rx
      obtain ⟨t', rfl⟩ := ry
      exact PyProof.Rows.lt_int ⟨.bl _, H, I, rfl, q⟩
    | bl _ => exact sk.elim
    | str _ _ => exact sk.elim
  | bl i =>
    cases kb with
    | bl j =>
      cases rx
      cases ry
      exact PyProof.Rows.lt_bool ⟨.bl _, H, I, rfl, q⟩
    | int _ => exact sk.elim
    | str _ _ => exact sk.elim
  | str z h1 =>
    cases kb with
    | int _ => exact sk.elim
    | bl _ => exact sk.elim
    | str z2 h2 =>
      cases rx
      cases ry
      obtain ⟨its, r1, p1, _⟩ := I.tuple (SqT.of h1)
      obtain ⟨its2, r2, p2, _⟩ := I.tuple (SqT.of h2)
      obtain ⟨u1, u2, rfl, ⟨t1, rfl⟩, ⟨t2, rfl⟩⟩ := vals2 r1
      obtain ⟨u3, u4, rfl, ⟨t3, rfl⟩, ⟨t4, rfl⟩⟩ := vals2 r2
      have R := Ob.RcOp.tuples_lt (A := X.A) (s := s) (e := fun j => if j = 0 then decide ((z.length : Int) = z2.length) else z == z2)
        (r := fun j => if j = 0 then decide ((z.length : Int) < z2.length) else decide (z.cps.toList < z2.cps.toList)) p1 p2 hu (fun j j1 j2 => ?_) (fun j j1 j2 _ => ?_)
      · have e : Ob.lexAt (fun j => if j = 0 then decide ((z.length : Int) = z2.length) else z == z2)
            (fun j => if j = 0 then decide ((z.length : Int) < z2.length) else decide (z.cps.toList < z2.cps.toList)) (decide (2 < 2)) 0 2 = befV (.str z) (.str z2) := by
          show (if decide ((z.length : Int) = z2.length) = true then (if (z == z2) = true then decide (2 < 2) else decide (z.cps.toList < z2.cps.toList)) else decide ((z.length : Int) < z2.length)) = (decide (z.length < z2.length) || (decide (z.length = z2.length) && decide (z.cps.toList < z2.cps.toList)))
          by_cases a1 : z.length = z2.length
          · have a2 : (z.length : Int) = z2.length := by omega
            rw [decide_eq_true a2, if_pos rfl, decide_eq_true a1, decide_eq_false (by omega : ¬ z.length < z2.length), Bool.false_or, Bool.true_and]
            by_cases b1 : z = z2
            · subst b1
              rw [if_pos (beq_self_eq_true _)]
              have zz : ¬ z.cps.toList < z.cps.toList := List.lt_irrefl (α := Nat) z.cps.toList
              rw [decide_eq_false zz]
              rfl
            · rw [if_neg (fun q => b1 (eq_of_beq q))]
          · have a2 : ¬ (z.length : Int) = z2.length := by omega
            rw [decide_eq_false a2, if_neg Bool.false_ne_true, decide_eq_false a1, Bool.false_and, Bool.or_false]
            by_cases b1 : z.length < z2.length
            · rw [decide_eq_true b1, decide_eq_true (by omega)]
            · rw [decide_eq_false b1, decide_eq_false (by omega)]
        have R2 := R X.prog X.w X.xe (EP X pins σ Q)
        exact R2 ⟨.bl _, H, I, rfl, by rw [← e] at q; exact q⟩
      · match j, j1 with
        | 0, _ =>
          have e : (decide ((z.length : Int) = z2.length)) = ((z.length : Int) == z2.length) := by
            by_cases q : (z.length : Int) = z2.length
            · rw [decide_eq_true q, beq_iff_eq.mpr q]
            · rw [decide_eq_false q, beq_eq_false_iff_ne.mpr q]
          show SeqAt.EqAt X.A.in1 s (.int _ t1) (.int _ t3) (decide ((z.length : Int) = z2.length))
          rw [e]
          exact SeqAt.EqAt.int_int _ _ _ _
        | 1, _ => exact SeqAt.EqAt.str_str _ _ _ _
      · match j, j1 with
        | 0, _ => exact Ob.RcOp.lt_int _ _ _ _
        | 1, _ => exact fun _ _ _ _ h => PyProof.Rows.lt_str h
end
/-- a def of the text that keeps its promise, by the name that holds it -/
def Dfn (P : Program) (w : World) (K : PySem.W.Frag) (mg : Str → Option Value) (base : Heap) (k : Nat) (x : Str) (ps : List Str) (sp : Sp) : Prop :=
  ∃ f fd, GOk P w K mg base CX0 k f fd ps sp ∧ mg x = some (.ref f) ∧ PySem.W.keepIn K (.ref f) = true ∧ Binds K fd ps []
theorem Dfn.mono {P : Program} {w : World} {K : PySem.W.Frag} {mg : Str → Option Value} {base : Heap} {j k : Nat} {x : Str} {ps : List Str} {sp : Sp} (D : Dfn P w K mg base j x ps sp) (h : j ≤ k) : Dfn P w K mg base k x ps sp := by
  obtain ⟨f, fd, F, r⟩ := D
  exact ⟨f, fd, F.mono h, r⟩
theorem Dfn.imp {P : Program} {w : World} {K : PySem.W.Frag} {mg : Str → Option Value} {base : Heap} {k : Nat} {x : Str} {ps : List Str} {sp sp2 : Sp} (D : Dfn P w K mg base k x ps sp) (h : ∀ vs H Q E, sp2 vs H Q E → sp vs H Q E) : Dfn P w K mg base k x ps sp2 := by
  obtain ⟨f, fd, F, r⟩ := D
  exact ⟨f, fd, F.imp h, r⟩
section
variable {X : Cx} {k : Nat} {ps : List Str} {sp : Sp} {x : Str} {p pos : Pos} {e : Expr} {es : List Expr} {t : TA}
theorem pd_call (D : Dfn X.prog X.w X.K X.mg X.base k x ps sp) (hgd : X.A.guards = some []) (hr : Room k X.A) (hg : Gl X x) (ha : PA X (e :: es) t) (hdb : (x == ("__debug__" : Str)) = false := by decide)
    (he : starEach (e :: es) X.env = (false, eval e X.env) :: starEach es X.env := by rfl) (hpl : (backTo pos (starEach es X.env)).any (·.1) = false := by rfl) :
    PE X (.Call (.Name x p) (e :: es) [] pos) (tCall sp [] E0 t) := by
  obtain ⟨f, fd, F, hm, hk, hb⟩ := D
  exact pg_call F hgd hr hg hm hk hb .nil pass0 ha hdb he hpl
theorem pd_call0 (D : Dfn X.prog X.w X.K X.mg X.base k x ps sp) (hgd : X.A.guards = some []) (hr : Room k X.A) (hg : Gl X x) (hdb : (x == ("__debug__" : Str)) = false := by decide) :
    PE X (.Call (.Name x p) [] [] pos) (tCall sp [] E0 tNil) := by
  obtain ⟨f, fd, F, hm, hk, hb⟩ := D
  exact pg_call0 F hgd hr hg hm hk hb .nil pass0 hdb
/-- a constant of the module -/
def Gv (mg : Str → Option Value) (x : Str) (v : V) : Prop := ∃ u, mg x = some u ∧ RelV v u
theorem pe_gs {v : V} (h : Gv X.mg x v) (hg : Gl X x) (hd : (x == ("__debug__" : Str)) = false := by decide) : PE X (.Name x pos) (tC v) := by
  obtain ⟨u, hm, r⟩ := h
  exact pe_glob hg hm r hd
end
/-- a def of the text, as the top has left it -/
theorem dfn_mk {P : Program} {w : World} {K : PySem.W.Frag} {mg : Str → Option Value} {base : Heap} {k : Nat} {x : Str} {ps : List Str} {sp : Sp} {f : Addr} {fd : FuncData} (F : GOk P w K mg base CX0 k f fd ps sp) (hm : mg x = some (.ref f))
    (hk : PySem.W.keepIn K (.ref f) = true) (hb : Binds K fd ps []) : Dfn P w K mg base k x ps sp := ⟨f, fd, F, hm, hk, hb⟩
/-- what is known of a def's place -/
structure Pl (K : PySem.W.Frag) (mg : Str → Option Value) (x : Str) (st : Stmt) (ps : List Str) (f : Addr) (fd : FuncData) : Prop where
  F : Fun K x x st f fd
  m : mg x = some (.ref f)
  b : Binds K fd ps []
theorem Pl.d {P : Program} {w : World} {K : PySem.W.Frag} {mg : Str → Option Value} {base : Heap} {k : Nat} {x : Str} {st : Stmt} {ps : List Str} {sp : Sp} {f : Addr} {fd : FuncData} (p : Pl K mg x st ps f fd) (G : GOk P w K mg base CX0 k f fd ps sp) :
    Dfn P w K mg base k x ps sp := ⟨f, fd, G, p.m, p.F.kp, p.b⟩
end Zk
set_option maxHeartbeats 4000000
namespace Zk
open PySem PySem.Spec PyProof.Rows L2

/-! ### more of the heap -/
theorem same_new {H : Hp} {p : Addr} {o : HO} (h : H p = none) : Same H (upd H p o) := by
  intro b u e
  rw [upd_ne (ne_of_none e h)]
  exact e
/-- all but p stands -/
def ExB (p : Addr) (H H' : Hp) : Prop := ∀ b o, b ≠ p → H b = some o → H' b = some o
theorem ExB.refl (p : Addr) (H : Hp) : ExB p H H := fun _ _ _ e => e
theorem ExB.trans {p : Addr} {H H1 H2 : Hp} (a : ExB p H H1) (b : ExB p H1 H2) : ExB p H H2 := fun c o n e => b c o n (a c o n e)
theorem ExB.of {p : Addr} {H H1 : Hp} (a : Same H H1) : ExB p H H1 := fun c o _ e => a c o e
theorem ExB.put {p : Addr} {H : Hp} {o : HO} : ExB p H (upd H p o) := fun c u n e => by
  rw [upd_ne n]
  exact e
theorem ExB.same {p : Addr} {H0 H H' : Hp} (a : ExB p H H') (n : H0 p = none) (s : Same H0 H) : Same H0 H' := fun b o e => a b o (ne_of_none e n) (s b o e)
/-- the heap without p -/
def hid (p : Addr) (H : Hp) : Hp := fun b => if b = p then none else H b
theorem hid_self {p : Addr} {H : Hp} : hid p H p = none := by
  unfold hid
  rw [if_pos rfl]
theorem hid_ne {p b : Addr} {H : Hp} (h : b ≠ p) : hid p H b = H b := by
  unfold hid
  rw [if_neg h]
theorem hid_same {p : Addr} {H : Hp} : Same (hid p H) H := fun b o e => by
  by_cases z : b = p
  · rw [z, hid_self] at e
    cases e
  · rw [hid_ne z] at e
    exact e
theorem ExB.hid {p : Addr} {H H' : Hp} (a : ExB p H H') : Same (hid p H) (hid p H') := fun b o e => by
  by_cases z : b = p
  · rw [z, hid_self] at e
    cases e
  · rw [hid_ne z] at e ⊢
    exact a b o z e
theorem same_hid {p : Addr} {H0 H : Hp} (s : Same H0 H) (n : H0 p = none) : Same H0 (hid p H) := fun b o e => by
  rw [hid_ne (ne_of_none e n)]
  exact s b o e
theorem Same.free' {H H' : Hp} (e : Same H H') {l : Addr} (h : H' l = none) : H l = none := Same.free e h

theorem yes_go {σ : L2.St} {H : Hp} {A B : Hp → Prop} (h : A H) : tYes σ H (fun b H3 => if b = true then A H3 else B H3) := by
  show if true = true then A H else B H
  exact iteT h
theorem no_go {H : Hp} {A B : Hp → Prop} {b : Bool} (hb : b = false) (h : B H) : (fun (b : Bool) H3 => if b = true then A H3 else B H3) b H := by
  subst hb
  exact iteF h
/-! ### the well of draws -/
def wellO (d m : Int) : HO := .dK [((Sum.inr "digits" : Key), V.int d), ((Sum.inr "mixed" : Key), V.int m)]
def WellAt (H : Hp) (p : Addr) : Prop := ∃ d m : Int, H p = some (wellO d m) ∧ 0 ≤ d ∧ bits d ≤ 2000000 ∧ 0 ≤ m ∧ m < 2 ^ 32
theorem WellAt.same {H H' : Hp} {p : Addr} (w : WellAt H p) (s : Same H H') : WellAt H' p := by
  obtain ⟨d, m, e, r⟩ := w
  exact ⟨d, m, s _ _ e, r⟩
theorem WellAt.ne {H : Hp} {p a : Addr} {o : HO} (w : WellAt H p) (h : H a = some o) (d : ∀ kvs, o ≠ .dK kvs) : a ≠ p := by
  obtain ⟨_, _, e, _⟩ := w
  exact ne_of h e (d _)
theorem seq_exb {K : PySem.W.Frag} {p a : Addr} {H H' : Hp} {xs : List V} (w : WellAt H p) (h : SqL K H a xs) (e : ExB p H H') : SqL K H' a xs := by
  rcases h with (h | ⟨o, h⟩) | h
  · exact .inl (.inl (e _ _ (w.ne h (fun _ z => by cases z)) h))
  · exact .inl (.inr ⟨o, e _ _ (w.ne h (fun _ z => by cases z)) h⟩)
  · exact .inr h
theorem bits_small {i : Int} {n : Nat} (h : i.natAbs < 2 ^ n) : bits i ≤ n := by
  unfold bits Builtin.Int.intBits
  split
  · exact Nat.zero_le _
  · rename_i hz
    have h0 : i.natAbs ≠ 0 := fun z => by
      have : i = 0 := by omega
      simp_all
    have := (Nat.log2_lt h0).mpr h
    omega
theorem bits_pow {i : Int} : i.natAbs < 2 ^ bits i := by
  unfold bits Builtin.Int.intBits
  split
  · rename_i hz
    have : i = 0 := by simpa using hz
    subst this
    decide
  · exact Nat.lt_log2_self
theorem bits_mul (i j : Int) : bits (i * j) ≤ bits i + bits j := by
  refine bits_small ?_
  rw [Int.natAbs_mul, Nat.pow_add]
  exact Nat.mul_lt_mul'' bits_pow bits_pow
theorem bits_add {i j : Int} {n : Nat} (hi : bits i ≤ n) (hj : bits j ≤ n) : bits (i + j) ≤ n + 1 := by
  refine bits_small ?_
  have h1 : i.natAbs < 2 ^ n := Nat.lt_of_lt_of_le bits_pow (Nat.pow_le_pow_right (by decide) hi)
  have h2 : j.natAbs < 2 ^ n := Nat.lt_of_lt_of_le bits_pow (Nat.pow_le_pow_right (by decide) hj)
  rw [Nat.pow_succ]
  omega
theorem bits_le {i j : Int} (h : i.natAbs ≤ j.natAbs) : bits i ≤ bits j := bits_small (Nat.lt_of_le_of_lt h bits_pow)
/-- what a draw leaves -/
def spDraw : Sp := fun vs H Q _ => ∃ (p : Addr) (b : Int), vs = [.ref p, .int b] ∧ WellAt H p ∧ 0 < b ∧ b < 1000000000 ∧ ∀ H' r, ExB p H H' → WellAt H' p → 0 ≤ r → r < b → Q (.int r) H'
def spChoose (K : PySem.W.Frag) : Sp := fun vs H Q _ => ∃ (p t : Addr) (xs : List V), vs = [.ref p, .ref t] ∧ WellAt H p ∧ SqL K H t xs ∧ xs ≠ [] ∧ xs.length ≤ 1000000 ∧ ∀ H' v, ExB p H H' → WellAt H' p → v ∈ xs → Q v H'
def spWell (K : PySem.W.Frag) : Sp := fun vs H Q _ => ∃ (a : Addr) (ns : List Int) (j : Int), vs = [.ref a, .int j] ∧ SqL K H a (ns.map V.int) ∧ ns.length ≤ 63 ∧ (∀ z ∈ ns, bits z ≤ 1048576) ∧ 0 ≤ j ∧ j ≤ 1000 ∧
  ∀ H' p, Same H H' → H p = none → WellAt H' p → Q (.ref p) H'
abbrev kD : Key := Sum.inr "digits"
abbrev kM : Key := Sum.inr "mixed"
theorem sd_ne : ¬ Str.ofString "digits" = Str.ofString "mixed" := by decide +kernel
theorem sm_ne : ¬ Str.ofString "mixed" = Str.ofString "digits" := by decide +kernel
theorem kd_ne : ¬ kM = kD := by decide +kernel
theorem kd_ne' : ¬ kD = kM := by decide +kernel
theorem well_putD (d m e : Int) : putK [(kD, V.int d), (kM, V.int m)] kD (V.int e) = [(kD, V.int e), (kM, V.int m)] := by
  simp [putK, sm_ne]
theorem well_putM (d m e : Int) : putK [(kD, V.int d), (kM, V.int m)] kM (V.int e) = [(kD, V.int d), (kM, V.int e)] := by
  simp [putK, sd_ne]
theorem well_merge (d m : Int) : mergeK [] [(kD, V.int d), (kM, V.int m)] = [(kD, V.int d), (kM, V.int m)] := by
  simp [mergeK, putK, sd_ne]
theorem wellD {H : Hp} {p : Addr} {d m : Int} (e : H p = some (wellO d m)) : DGet H p (.str "digits") (some (.int d)) := by
  have z := DGet.k (k := kD) e
  have y : valV [(kD, V.int d), (kM, V.int m)] kD = some (.int d) := valV_pos rfl
  rw [y] at z
  exact z
theorem wellM {H : Hp} {p : Addr} {d m : Int} (e : H p = some (wellO d m)) : DGet H p (.str "mixed") (some (.int m)) := by
  have z := DGet.k (k := kM) e
  have y : valV [(kD, V.int d), (kM, V.int m)] kM = some (.int m) := (valV_neg kd_ne').trans (valV_pos rfl)
  rw [y] at z
  exact z
theorem wellPD {H : Hp} {p : Addr} {d m e : Int} (h : H p = some (wellO d m)) : DPut H p (.str "digits") (.int e) (upd H p (wellO e m)) := by
  have z := DPut.k (k := kD) (v := .int e) h (show 2 < sizeLine by decide)
  rw [well_putD] at z
  exact z
theorem wellPM {H : Hp} {p : Addr} {d m e : Int} (h : H p = some (wellO d m)) : DPut H p (.str "mixed") (.int e) (upd H p (wellO d e)) := by
  have z := DPut.k (k := kM) (v := .int e) h (show 2 < sizeLine by decide)
  rw [well_putM] at z
  exact z
theorem bits_nn {i : Int} {n : Nat} (h0 : 0 ≤ i) (h : i < 2 ^ n) : bits i ≤ n := by
  refine bits_small ?_
  have e : ((2 : Int) ^ n) = ((2 ^ n : Nat) : Int) := by
    rw [Int.natCast_pow]
    rfl
  rw [e] at h
  omega
end Zk
set_option maxHeartbeats 4000000
/-! My own: an exception of the text's own made by a keyword. -/
namespace Zx
open PySem PySem.W PySem.HandSPX
open Builtin Builtin.ObjectAttr
section
variable {M : Model} {A : Around} {E : Value → Shared → Prop} {h : Heap} {g : Array GenState} {d : Drawn} {t : Nat} {os : OsState}
variable {nm q : Str} {C N : Addr} {bs bm bmB : List Value} {hdct : Bool} {sn : List Str} {sub : List Value} {ab : Bool} {col : Option Bool} {dd : Option Addr} {k0 k1 k2 k3 k5 : Option Value} {B newId initId : String}
theorem chk_new_kw (F : ExcBaseFacts B newId initId bmB) (hT : ∀ X : String, bm.contains (.type X) = bmB.contains (.type X)) {us : List Value} {kw : List (Str × Value)} {Q : Unit → Shared → Prop}
    (cl : h.get? C = some (excClassObj nm q C N bs bm hdct sn sub ab col dd k0 k1 k2 k3 k5 newId)) (fin : Q () ⟨h, g, d, t, os⟩) : wpAny M A (checkBuiltinCall newId ⟨.ref C :: us, kw⟩) Q E ⟨h, g, d, t, os⟩ := by
  have inB : (Value.ref C :: bm).contains (.type B) = true := by
    rw [List.contains_cons, hT, F.hasB, Bool.or_true]
  have star := F.noStar
  simp only [checkBuiltinCall, F.newKind, F.newSplit, F.newRow]
  repeat (first
    | refine wpAny_loadPart_at cl ?_
    | (refine wpAny_isSubtype_exc cl ?_; rw [inB])
    | refine wpAny_staticBase_exc cl ?_
    | refine wpAny_madeBy_exc cl ?_
    | simp only [bne_self_eq_false, Bool.false_eq_true, if_false]
    | wp_step)
  exact fin
end
section
variable {prog : Program} {w : World} {A : Around} {E : Value → Shared → Prop} {R : Result → Shared → Prop} {h : Heap} {g : Array GenState} {d : Drawn} {t : Nat} {os : OsState}
variable {nm q : Str} {C N : Addr} {bs bm bmB : List Value} {hdct : Bool} {sn : List Str} {sub : List Value} {ab : Bool} {col : Option Bool} {dd : Option Addr} {k0 k1 k2 k3 k5 : Option Value} {B newId initId : String}
theorem new_kw (F : ExcBaseFacts B newId initId bmB) (hT : ∀ X : String, bm.contains (.type X) = bmB.contains (.type X)) {kw : List (Str × Value)}
    (cl : h.get? C = some (excClassObj nm q C N bs bm hdct sn sub ab col dd k0 k1 k2 k3 k5 newId))
    (fin : R (.ok (.ret (.ref (h.objs.size + 1)))) ⟨(h.push { cls := .type "tuple", data := .seq #[] }).push
      { cls := .ref C, data := .fields #[.ref h.objs.size, .none, .none, .none, .bool false, .none] }, g, d, t, os⟩) :
    codeAny (model prog w) A (.builtin newId ⟨[.ref C], kw⟩) R ⟨h, g, d, t, os⟩ := by
  have ends := F.ends
  have inB : (Value.ref C :: bm).contains (.type B) = true := by
    rw [List.contains_cons, hT, F.hasB, Bool.or_true]
  have notA : (Value.ref C :: bm).contains (.type "AttributeError") = false := by
    rw [List.contains_cons, hT, F.noAttr]
    rfl
  have notN : (Value.ref C :: bm).contains (.type "NameError") = false := by
    rw [List.contains_cons, hT, F.noName]
    rfl
  refine codeAny_builtinAt F.entry ?_
  unfold Builtin.«BaseException.__new__»
  refine wpAt_bind ?_
  show wpAt _ _ _ (stack >>= _) _ _ _
  refine wpAt_bind (wpAt_stack fun p below => wpAt_of_wpAny ?_)
  wp_walk
  refine wpAt_of_wpAny ?_
  rw [F.owner]
  repeat (first
    | with_reducible refine wpAny_madeHere_exc F.canon cl ?_
    | with_reducible refine wpAny_loadPart_at cl ?_
    | (with_reducible refine wpAny_isSubtype_exc cl ?_; first | rw [inB] | rw [notA] | rw [notN])
    | wp_step)
  show R _ _
  rw [Heap.size_push]
  exact fin
theorem tcall_kw (F : ExcBaseFacts B newId initId bmB) (hT : ∀ X : String, bm.contains (.type X) = bmB.contains (.type X)) {kw : List (Str × Value)} {fI : Addr} {Q : Fin → Shared → Prop}
    (cl : h.get? C = some (excClassObj nm q C N bs bm hdct sn sub ab col dd k0 k1 k2 k3 k5 newId))
    (li : W.Looks (model prog w) h (typeLookup (.ref C) "__init__") (some (.ref fI))) (lb : ∀ self, W.Looks (model prog w) h (bindSpecial (.ref fI) self) (.ref fI, [self]))
    (fin : codeAny (model prog w) A (.call (.ref fI) ⟨[.ref (h.objs.size + 1)], kw⟩)
      (fun r s' => match r with | .ok (.ret v) => v = .none ∧ Q (.done (.ret (.ref (h.objs.size + 1)))) s' | .ok _ => False | .error e => E e s')
      ⟨(h.push (W.kdv_tup [])).push (excO C h.objs.size), g, d, t, os⟩) :
    wpAny (model prog w) A (Builtin.«type.__call__» ⟨[.ref C], kw⟩) Q E ⟨h, g, d, t, os⟩ := by
  repeat (first
    | with_reducible refine wpAny_loadPart_at cl ?_
    | with_reducible refine wpAny_madeBy_exc cl ?_
    | wp_step)
  refine codeAny_call_builtin_code (Code.quiet_builtin _ F.quiet) (chk_new_kw F hT cl ?_)
  refine new_kw F hT cl ?_
  show wpAny _ _ _ _ _ _
  have k : ∀ b o, h.get? b = some o → ((h.push (W.kdv_tup [])).push (excO C h.objs.size)).get? b = some o := by
    intro b o e
    exact Heap.get?_push_of_some _ (Heap.get?_push_of_some _ e)
  have cl2 := k _ _ cl
  have new : ((h.push (W.kdv_tup [])).push (excO C h.objs.size)).get? (h.objs.size + 1) = some (excO C h.objs.size) := by heap_get
  have inC : (Value.ref C :: bm).contains (.ref C) = true := by simp
  have i1 := li.keeps k
  have b1 := (lb (.ref (h.objs.size + 1))).keeps k
  unfold isInstance
  repeat (first
    | with_reducible refine wpAny_loadPart_at new ?_
    | (with_reducible refine wpAny_isSubtype_exc cl2 ?_; rw [inC])
    | wp_step)
  show wpAny _ _ (typeLookup (.ref C) _) _ _ _
  refine i1.at (wpAny_holding (wpAny_bind (b1.at ?_)))
  refine wpAny_bind (wpAny_call (codeAny_mono fin fun r s' z => ?_))
  rcases r with e | (v | _ | _ | _) <;> first | exact z | exact z.elim | skip
  obtain ⟨rfl, z⟩ := z
  first
    | exact wpAny_pure (wpAny_pure z)
    | (wp_walk; exact z)
theorem call_kw (F : ExcBaseFacts B newId initId bmB) (hT : ∀ X : String, bm.contains (.type X) = bmB.contains (.type X)) {kw : List (Str × Value)} {fI : Addr}
    (cl : h.get? C = some (excClassObj nm q C N bs bm hdct sn sub ab col dd k0 k1 k2 k3 k5 newId))
    (li : W.Looks (model prog w) h (typeLookup (.ref C) "__init__") (some (.ref fI))) (lb : ∀ self, W.Looks (model prog w) h (bindSpecial (.ref fI) self) (.ref fI, [self]))
    (fin : codeAny (model prog w) (A.under (.builtin "type.__call__" ⟨[.ref C], kw⟩)) (.call (.ref fI) ⟨[.ref (h.objs.size + 1)], kw⟩) (W.InitBack (h.objs.size + 1) R)
      ⟨(h.push (W.kdv_tup [])).push (excO C h.objs.size), g, d, t, os⟩) :
    codeAny (model prog w) A (.call (.ref C) ⟨[], kw⟩) R ⟨h, g, d, t, os⟩ := by
  have f1 := tc_lookup
  have f2 := tc_bind (.ref C)
  have isT : (⟨h, g, d, t, os⟩ : Shared).TypeIs (.ref C) "type" := ⟨_, cl, rfl⟩
  refine codeAny_of_tree ?_
  show wpAny _ _ (callAny (.ref C) _) _ _ _
  repeat (any_goals (first
    | assumption
    | with_reducible refine wpAny_loadPart_at cl ?_
    | wp_step))
  refine ⟨rfl, ?_⟩
  refine codeAny_call_builtin_at (Code.quiet_builtin _ (by decide +kernel)) entry_typeCall ?_
  refine wpAny_check_type_call_sub cl (tcall_kw F hT cl li lb ?_)
  refine codeAny_mono fin fun r s' z => ?_
  rcases r with e | (v | _ | _ | _) <;> exact z
end
end Zx
set_option maxHeartbeats 4000000
namespace Zx
open PySem PySem.Spec PyProof.Rows L2 Zk
/-! ### exceptions of the text's own, held as values -/
/-- self.f = f -/
def spIni (C : Addr) (f : Str) : Sp := fun vs H Q _ => ∃ a v, vs = [.ref a, v] ∧ H a = some (exo a C none) ∧ ∀ d, H d = none → d ≠ a → Q .non (upd (upd H d (exd d [(f, v)])) a (exo a C (some d)))
/-- what is known of an error's class: its name, the attribute that it keeps -/
structure Er (P : Program) (w : World) (K : PySem.W.Frag) (mg : Str → Option Value) (base : Heap) (x : Str) (C : Addr) (f : Str) : Prop where
  oex : OexC K C
  ic : ExcC K C
  m : mg x = some (.ref C)
  no : PySem.W.findIn K (.ref C) f = some none
  ini : ∃ fI fd, PySem.W.findIn K (.ref C) "__init__" = some (some (.ref fI)) ∧ PySem.W.typeIn K (.ref fI) = some (.type "function") ∧ FnOk P w K mg base CX0 1 fI fd ["self", f] (spIni C f) ∧ Binds K fd ["self", f] [] ∧
    ∀ (s : Shared) (x u : Value), BindsTo s fd ⟨[x], [(f, u)]⟩ [("self", x), (f, u)]
/-- an error that keeps v -/
def ErrAt (H : Hp) (a C : Addr) (f : Str) (v : V) : Prop := ∃ d, H a = some (exo a C (some d)) ∧ H d = some (exd d [(f, v)])
theorem ErrAt.mono {H H' : Hp} {a C : Addr} {f : Str} {v : V} (s : Same H H') (e : ErrAt H a C f v) : ErrAt H' a C f v := by
  obtain ⟨d, h1, h2⟩ := e
  exact ⟨d, s _ _ h1, s _ _ h2⟩
def tErr (C : Addr) (f : Str) (ta : TA) : TE := fun σ H Q => ta σ H fun vs H1 => ∃ v, vs = [v] ∧ ∀ a H2, Same H1 H2 → ErrAt H2 a C f v → Q (.ref a) H2
theorem ini_end {H : Hp} {a C : Addr} {f : Str} {v : V} {Q : VK} (na : H a = none) (q : ∀ a H2, Same H H2 → ErrAt H2 a C f v → Q (.ref a) H2) :
    spIni C f [.ref a, v] (upd H a (exo a C none)) (fun u H2 => u = .non ∧ Q (.ref a) H2) E0 := by
  refine ⟨a, v, rfl, upd_same, fun d nd da => ⟨rfl, ?_⟩⟩
  have nd0 : H d = none := by
    rw [upd_ne da] at nd
    exact nd
  refine q a _ ?_ ⟨d, upd_same, ?_⟩
  · intro b o e
    rw [upd_ne (ne_of_none e na), upd_ne (ne_of_none e nd0), upd_ne (ne_of_none e na)]
    exact e
  · rw [upd_ne da, upd_same]
section
variable {X : Cx} {x f : Str} {C : Addr} {e : Expr} {ta : TA} {te : TE} {p pos kp : Pos}
theorem mk_exc {pins : List (Addr × Obj)} {σ : L2.St} {H : Hp} {s : Shared} {Q : VK} {v : V} {us : List Value} {kw : List (Str × Value)} {u : Value} (T : Er X.prog X.w X.K X.mg X.base x C f) (hr : Room 2 X.A) (I : Inv X pins σ H s) (rv : RelV v u)
    (hk : (us = [u] ∧ kw = []) ∨ (us = [] ∧ kw = [(f, u)])) (q : ∀ a H2, Same H H2 → ErrAt H2 a C f v → Q (.ref a) H2) :
    wpAny (model X.prog X.w) X.A (call (.ref C) us kw) (EP X pins σ Q) X.xe s := by
  obtain ⟨nm, qn, N, bs, bm, sn, sub, ab, col, dd, k0, k1, k2, k3, k5, hC, hbm⟩ := T.oex.cls
  obtain ⟨fI, fd, iC, tI, F1, hb, hbk⟩ := T.ini
  obtain ⟨hp, g, dr, tk, os⟩ := s
  have up : hp.objs.size ≤ hp.objs.size + 1 := Nat.le_succ _
  have na : H (hp.objs.size + 1) = none := I.hok.fresh up
  have go := ini_end (C := C) (f := f) (v := v) na q
  have r2 : Vals [V.ref (hp.objs.size + 1), v] [Value.ref (hp.objs.size + 1), u] := .cons rfl (.cons rv .nil)
  have done : ∀ (J : Inv X pins σ (upd H (hp.objs.size + 1) (exo (hp.objs.size + 1) C none)) ⟨(hp.push (PySem.W.kdv_tup us)).push (PySem.HandSPX.excO C hp.objs.size), g, dr, tk, os⟩) (r : Result) (s' : Shared),
      CR CX0 X.stack X.prog X.w (upd H (hp.objs.size + 1) (exo (hp.objs.size + 1) C none)) ⟨(hp.push (PySem.W.kdv_tup us)).push (PySem.HandSPX.excO C hp.objs.size), g, dr, tk, os⟩ (fun u H2 => u = .non ∧ Q (.ref (hp.objs.size + 1)) H2) E0 r s' →
      PySem.W.InitBack (hp.objs.size + 1) (fun r s' => match r with | .ok (.ret v) => EP X pins σ Q v s' | .ok _ => False | .error e => X.xe e s') r s' := by
    intro J r s' hq
    match r, hq with
    | .error e, hq => exact (show False from hq).elim
    | .ok .next, hq => exact False.elim hq
    | .ok .brk, hq => exact False.elim hq
    | .ok .cont, hq => exact False.elim hq
    | .ok (.ret u), hq =>
      obtain ⟨v, H', I3, rv, ev, q3⟩ := J.after hq
      subst ev
      exact ⟨rv, ⟨V.ref (hp.objs.size + 1), H', I3, rfl, q3⟩⟩
  have hget : ∀ us : List Value, ((hp.push (PySem.W.kdv_tup us)).push (PySem.HandSPX.excO C hp.objs.size)).get? (hp.objs.size + 1) = some (PySem.HandSPX.excO C hp.objs.size) := fun us => by heap_get
  have I2 : Inv X pins σ (upd H (hp.objs.size + 1) (exo (hp.objs.size + 1) C none)) ⟨(hp.push (PySem.W.kdv_tup us)).push (PySem.HandSPX.excO C hp.objs.size), g, dr, tk, os⟩ :=
    I.laid (t' := tk) (a := hp.objs.size + 1) (o := exo (hp.objs.size + 1) C none) (h' := (hp.push (PySem.W.kdv_tup us)).push (PySem.HandSPX.excO C hp.objs.size))
      (fun b o e => Heap.get?_push_of_some _ (Heap.get?_push_of_some _ e)) up (exo_ok (hget us))
  rcases hk with ⟨rfl, rfl⟩ | ⟨rfl, rfl⟩
  · have one : [u].length ≤ sizeLine := by
      rw [sizeLine_eq]
      exact (by decide : 1 ≤ 16777216)
    refine wpAny_call (PySem.HandSPX.call_own F.excBase_ValueError (fun Y => PySem.HandSPX.refsVE_contains Y bm hbm) (I.kIn _ _ hC) (PySem.W.looks_findIn I.kIn iC) (fun self => PySem.W.bind_fn I.kIn self tI) one ?_)
    refine codeAny_mono (F1.run _ X.stack _ _ ⟨[Value.ref (hp.objs.size + 1), u], []⟩ [Value.ref (hp.objs.size + 1), u] _ _ E0 (hr.make C [u] []) (I2.env0.make C [u] []) ?_ r2 go) fun r s' hq => done I2 r s' hq
    have z := hb _ [Value.ref (hp.objs.size + 1), u] I2.kIn rfl
    simpa using z
  · refine wpAny_call (call_kw F.excBase_ValueError (fun Y => PySem.HandSPX.refsVE_contains Y bm hbm) (I.kIn _ _ hC) (PySem.W.looks_findIn I.kIn iC) (fun self => PySem.W.bind_fn I.kIn self tI) ?_)
    exact codeAny_mono (F1.run _ X.stack _ _ ⟨[Value.ref (hp.objs.size + 1)], [(f, u)]⟩ [Value.ref (hp.objs.size + 1), u] _ _ E0 (hr.make C [] [(f, u)]) (I2.env0.make C [] [(f, u)]) (hbk _ _ _) r2 go) fun r s' hq => done I2 r s' hq
/-- C(e) -/
theorem pe_err (T : Er X.prog X.w X.K X.mg X.base x C f) (hr : Room 2 X.A) (hg : Gl X x) (ha : PA X [e] ta) (hdb : (x == ("__debug__" : Str)) = false := by decide)
    (he : starEach [e] X.env = (false, eval e X.env) :: starEach [] X.env := by rfl) (hpl : (backTo pos (starEach [] X.env)).any (·.1) = false := by rfl) :
    PE X (.Call (.Name x p) [e] [] pos) (tErr C f ta) := by
  constructor
  intro pins s σ H Q I h
  refine wpAny_Call_Name_kw (ld_glob I hg T.m ?_ hdb)
  refine PySem.W.callWith_K (h₀ := X.base) I.ok.mod.kin T.oex.kC ?_ he hpl
  refine thn (ha.run pos pins s σ H _ I h) ?_
  rintro us s1 ⟨vs, H1, I1, r, v, rfl, q⟩
  obtain ⟨u, rfl, rv⟩ := vals1 r
  exact ⟨I1.kIn, mk_exc T hr I1 rv (.inl ⟨rfl, rfl⟩) q⟩
/-- C(f=e) -/
theorem pe_errK (T : Er X.prog X.w X.K X.mg X.base x C f) (hr : Room 2 X.A) (hg : Gl X x) (he : PE X e te) (hdb : (x == ("__debug__" : Str)) = false := by decide)
    (hall : (backToKw pos (keywordEach [⟨f, e, kp⟩] X.env)).all (·.1.isSome) = true := by rfl) (hks : (backToKw pos (keywordEach [⟨f, e, kp⟩] X.env)).filterMap (·.1) = [f] := by rfl)
    (hpl : ((backTo pos (starEach [] X.env)).any (·.1) || (backToKw pos (keywordEach [⟨f, e, kp⟩] X.env)).any (·.1.isNone)) = false := by rfl) :
    PE X (.Call (.Name x p) [] [⟨f, e, kp⟩] pos) (tErr C f (tCons te tNil)) := by
  constructor
  intro pins s σ H Q I h
  refine wpAny_Call_Name_kw (ld_glob I hg T.m ?_ hdb)
  refine PySem.W.callWith_KW0 (h₀ := X.base) I.ok.mod.kin T.oex.kC hall ?_ hpl
  have hk : PK X [⟨f, e, kp⟩] (tCons te tNil) := pk_cons he pk_nil
  refine thn (hk.run pos pins s σ H _ I h) ?_
  rintro us s1 ⟨vs, H1, I1, r, v, rfl, q⟩
  obtain ⟨u, rfl, rv⟩ := vals1 r
  refine ⟨I1.kIn, ?_⟩
  rw [hks]
  exact mk_exc T hr I1 rv (.inr ⟨rfl, rfl⟩) q
/-- error.f -/
def tErf (K : PySem.W.Frag) (n : Str) (te : TE) : TE := fun σ H Q => te σ H fun x H1 => ∃ a C v, x = .ref a ∧ ExcC K C ∧ PySem.W.findIn K (.ref C) n = some none ∧ ErrAt H1 a C n v ∧ Q v H1
theorem pe_erf {K : PySem.W.Frag} {n : Str} (hK : X.K = K) (he : PE X e te) (hb : attributeBase e n X.env (eval e X.env) = eval e X.env := by rfl) : PE X (.Attribute e n pos) (tErf K n te) := by
  subst hK
  constructor
  intro pins s σ H Q I h
  refine attr_of hb (thn (he.run pins s σ H _ I h) ?_)
  rintro u s1 ⟨x, H1, I1, rx, a, C, v, rfl, T, hno, ⟨d, ha, hd⟩, q⟩
  obtain rfl : u = Value.ref a := rx
  obtain ⟨t1, ho⟩ := exo_at I1.hok ha
  obtain ⟨mA, hns, hr⟩ := exd_at I1.hok hd
  obtain ⟨od, hod, hl⟩ := lookIn_ns hns
  obtain ⟨u, hu, ru⟩ := RelO.some_of (v := v) (o := mA n) (by
    have z := hr n
    rw [show List.lookup n [(n, v)] = some v by simp] at z
    exact z)
  have J : PySem.W.InstAt s1.heap a { cls := .ref C, dict := some d, data := .fields #[.ref t1, .none, .none, .none, .bool false, .none] } C (some od) := ⟨ho, rfl, rfl, hod⟩
  exact HandSPX.exc_get I1.kIn J T.hg T.hk T.hs (PySem.W.findObj_own T.hd hno rfl (by rw [hl, hu])) (handed_of ru) ⟨v, H1, I1.tok _, ru, q⟩
/-- isinstance(error, c) -/
def rIsEr (K : PySem.W.Frag) : List V → Hp → VK → Prop := fun xs H Q => ∃ a C d c cv b, xs = [.ref a, c] ∧ H a = some (exo a C (some d)) ∧ (∃ o, H d = some (exd d o)) ∧ ExcC K C ∧ ClsV c cv ∧ PySem.W.kitOne K (.ref C) cv = some b ∧ Q (.bl b) H
end
end Zx
set_option maxHeartbeats 4000000
/-! My own rules: sorted lists of tuples of texts. -/
namespace Zs
open PySem PyProof.Rows
/-- tuples of texts in their order -/
def lexT : List Str → List Str → Bool
  | [], [] => false
  | [], _ :: _ => true
  | _ :: _, [] => false
  | x :: xs, y :: ys => if x = y then lexT xs ys else decide (x.cps.toList < y.cps.toList)
theorem cps_inj {x y : Str} (h : x.cps.toList = y.cps.toList) : x = y := by
  cases x
  cases y
  exact congrArg Str.mk (Array.toList_inj.mp h)
theorem str_asym {x y : Str} (h : x.cps.toList < y.cps.toList) : ¬ y.cps.toList < x.cps.toList := fun z => List.lt_irrefl _ (List.lt_trans h z)
theorem str_tot {x y : Str} (h : ¬ x.cps.toList < y.cps.toList) (n : x ≠ y) : y.cps.toList < x.cps.toList := by
  have h1 : y.cps.toList ≤ x.cps.toList := List.not_lt.mp h
  rcases List.le_iff_lt_or_eq.mp h1 with z | z
  · exact z
  · exact absurd (cps_inj z.symm) n
theorem lexT_asym : ∀ xs ys : List Str, lexT xs ys = true → lexT ys xs = false
  | [], [], h => by cases h
  | [], _ :: _, _ => rfl
  | _ :: _, [], h => by cases h
  | x :: xs, y :: ys, h => by
    unfold lexT at h ⊢
    by_cases e : x = y
    · rw [if_pos e] at h
      rw [if_pos e.symm]
      exact lexT_asym xs ys h
    · rw [if_neg e] at h
      rw [if_neg (fun z => e z.symm)]
      exact decide_eq_false (str_asym (of_decide_eq_true h))
/-- one of them comes first -/
theorem lexT_tot : ∀ xs ys : List Str, lexT xs ys = false → lexT ys xs = false → xs = ys
  | [], [], _, _ => rfl
  | [], _ :: _, h, _ => by cases h
  | _ :: _, [], _, h => by cases h
  | x :: xs, y :: ys, h1, h2 => by
    unfold lexT at h1 h2
    by_cases e : x = y
    · rw [if_pos e] at h1
      rw [if_pos e.symm] at h2
      rw [e, lexT_tot xs ys h1 h2]
    · rw [if_neg e] at h1
      rw [if_neg (fun z => e z.symm)] at h2
      exact absurd (str_tot (of_decide_eq_false h1) e) (of_decide_eq_false h2)
theorem lexT_trans : ∀ xs ys zs : List Str, lexT xs ys = true → lexT ys zs = true → lexT xs zs = true
  | [], [], _, h, _ => by cases h
  | [], _ :: _, [], _, h => by cases h
  | [], _ :: _, _ :: _, _, _ => rfl
  | _ :: _, [], _, h, _ => by cases h
  | _ :: _, _ :: _, [], _, h => by cases h
  | x :: xs, y :: ys, z :: zs, h1, h2 => by
    unfold lexT at h1 h2 ⊢
    by_cases e : x = y
    · subst e
      rw [if_pos rfl] at h1
      by_cases f : x = z
      · rw [if_pos f] at h2 ⊢
        exact lexT_trans xs ys zs h1 h2
      · rw [if_neg f] at h2 ⊢
        exact h2
    · rw [if_neg e] at h1
      have a := of_decide_eq_true h1
      by_cases f : y = z
      · subst f
        rw [if_neg e]
        exact h1
      · rw [if_neg f] at h2
        have b := List.lt_trans a (of_decide_eq_true h2)
        have g : x ≠ z := fun q => by
          rw [q] at b
          exact List.lt_irrefl _ b
        rw [if_neg g]
        exact decide_eq_true b
theorem lexT_irr (xs : List Str) : lexT xs xs = false := by
  cases h : lexT xs xs with
  | false => rfl
  | true => exact absurd (lexT_asym _ _ h) (by rw [h]; decide)
theorem lexT_tr (x y z : List Str) (h1 : lexT y x = false) (h2 : lexT z y = false) : lexT z x = false := by
  cases h : lexT z x with
  | false => rfl
  | true =>
    cases a : lexT x y with
    | true =>
      have b := lexT_trans _ _ _ h a
      rw [h2] at b
      cases b
    | false =>
      have e := lexT_tot _ _ a h1
      rw [e, h2] at h
      cases h
theorem lexT_swo {α : Type} (k : α → List Str) : SrtO.Swo (fun x y => lexT (k x) (k y)) := ⟨fun x y => lexT_asym _ _, fun x y z => lexT_tr _ _ _⟩
/-- the tuple v of the texts ks -/
def IsTS (h : Heap) (v : Value) (ks : List Str) : Prop := ∃ a o xs n, v = .ref a ∧ h.get? a = some o ∧ o.cls = .type "tuple" ∧ o.data = .seq xs n ∧ StrsAre xs.toList ks
theorem IsTS.keeps {h h' : Heap} {v : Value} {ks : List Str} (x : IsTS h v ks) (k : ∀ b o, h.get? b = some o → o.cls = .type "tuple" → h'.get? b = some o) : IsTS h' v ks := by
  obtain ⟨a, o, xs, n, e, ho, hc, hd⟩ := x
  exact ⟨a, o, xs, n, e, k a o ho hc, hc, hd⟩
section
variable {prog : Program} {w : World} {A : Around} {E : Value → Shared → Prop} {s : Shared} {Q : Bool → Shared → Prop}
theorem oneLt_strs (c : Bool) {p q : Str} {t u : Tok} (h : Q (decide (p.cps.toList < q.cps.toList)) s) : wpAny (model prog w) A (oneLt' c (.str p t) (.str q u)) Q E s := by
  cases c with
  | true => exact oneLt_str h
  | false => exact PySem.W.kat_one _ _ (PyProof.Rows.lt_str (Q := PySem.W.BoolBack Q) h)
theorem lex_strs {b : Bool} {xs ys : List Value} {ks ms : List Str} (i : Nat) (hx : StrsAre xs ks) (hy : StrsAre ys ms) (h : Q (lexT ks ms) s) :
    PySem.W.KatLex prog w A b (decide (xs.length < ys.length)) Q (xs.zip ys) i s := by
  induction hx generalizing ys ms i with
  | nil =>
    cases hy with
    | nil => exact PySem.W.kat_nil h
    | @cons q u ys ms hy =>
      have e : decide (([] : List Value).length < (Value.str q u :: ys).length) = true := decide_eq_true (Nat.succ_pos _)
      rw [e]
      exact PySem.W.kat_nil h
  | @cons p t xs ks hx ih =>
    cases hy with
    | nil => exact PySem.W.kat_nil h
    | @cons q u ys ms hy =>
      have el : decide ((Value.str p t :: xs).length < (Value.str q u :: ys).length) = decide (xs.length < ys.length) := by
        rw [List.length_cons, List.length_cons]
        exact decide_eq_decide.mpr (by omega)
      rw [el]
      show PySem.W.KatLex prog w A b _ Q ((Value.str p t, Value.str q u) :: xs.zip ys) i s
      refine PySem.W.kat_cons (eqBool_str ?_)
      by_cases e : p = q
      · subst e
        have d : lexT (p :: ks) (p :: ms) = lexT ks ms := if_pos rfl
        rw [d] at h
        rw [beq_self_eq_true]
        exact PySem.W.kat_yes (ih (i + 1) hy h)
      · have d : lexT (p :: ks) (q :: ms) = decide (p.cps.toList < q.cps.toList) := if_neg e
        rw [d] at h
        have nb : (p == q) = false := beq_eq_false_iff_ne.mpr e
        rw [nb]
        exact PySem.W.kat_no (oneLt_strs _ h)
theorem ts_cmp {vs : List Value} {k : Value → List Str} (hp : ∀ v ∈ vs, IsTS s.heap v (k v)) : SrtO.Cmp prog w A s (tuples' true) (fun p => p.1 ∈ vs) (SrtO.lt2 fun v u => lexT (k v) (k u)) := by
  intro p q hm hm'
  obtain ⟨a, o, xs, n, e, ho, hc, hd, hs⟩ := hp _ hm
  obtain ⟨a', o', xs', n', e', ho', hc', hd', hs'⟩ := hp _ hm'
  show wpAny (model prog w) A (keyLt' (tuples' true) p.1 q.1) (fun r s' => s' = s ∧ r = lexT (k p.1) (k q.1)) (fun _ _ => False) s
  generalize k p.1 = ks at hs ⊢
  generalize k q.1 = ms at hs' ⊢
  rw [e, e']
  exact PySem.W.kat_lt ho hd ho' hd' (lex_strs 0 hs hs' ⟨rfl, rfl⟩)
theorem ts_firsts {h : Heap} {k : Value → List Str} : ∀ {vs : List Value}, (∀ v ∈ vs, IsTS h v (k v) ∧ k v ≠ []) → ∃ fs : List Value, PySem.W.KatTups h vs fs ∧ fs.length = vs.length ∧ ∀ f ∈ fs, ∃ x t, f = Value.str x t
  | [], _ => ⟨[], PySem.W.KatTups.nil, rfl, fun _ hm => by simp at hm⟩
  | v :: vs, hp => by
    obtain ⟨fs, h1, h2, h3⟩ := ts_firsts (vs := vs) fun v' hm => hp v' (List.mem_cons_of_mem _ hm)
    obtain ⟨⟨a, o, xs, n, e, ho, hc, hd, hs⟩, ne⟩ := hp v (List.mem_cons_self ..)
    generalize k v = ks at hs ne
    obtain ⟨f, t, r, ef⟩ : ∃ f t r, xs.toList = Value.str f t :: r := by
      cases q : xs.toList with
      | nil =>
        rw [q] at hs
        cases hs
        exact absurd rfl ne
      | cons y r =>
        rw [q] at hs
        cases hs
        exact ⟨_, _, _, rfl⟩
    subst e
    have hf : xs[0]? = some (Value.str f t) := by
      rw [← Array.getElem?_toList, ef]
      rfl
    refine ⟨.str f t :: fs, PySem.W.KatTups.cons ho hc hd hf h1, by rw [List.length_cons, List.length_cons, h2], fun g hm => ?_⟩
    rcases List.mem_cons.mp hm with rfl | hm
    · exact ⟨f, t, rfl⟩
    · exact h3 g hm
theorem ts_sortable {a : Addr} {vs : List Value} {k : Value → List Str} (h0 : 0 < vs.length) (hp : ∀ v ∈ vs, IsTS s.heap v (k v) ∧ k v ≠ []) (ha : ∀ o, s.heap.get? a = some o → o.cls ≠ .type "tuple") : SrtO.SortableO prog w A s a vs fun v u => lexT (k v) (k u) := by
  intro h' keep
  have hp' : ∀ v ∈ vs, IsTS h' v (k v) ∧ k v ≠ [] := fun v hm => ⟨(hp v hm).1.keeps fun b o e c => keep b o (fun z => by subst z; exact ha o e c) e, (hp v hm).2⟩
  obtain ⟨fs, h1, h2, h3⟩ := ts_firsts hp'
  refine ⟨tuples' true, fun Q E hq => ?_, ts_cmp fun v hm => (hp' v hm).1⟩
  refine PySem.W.kat_kind (T := .type "str") h1 (by omega) (fun f hm => ?_) (by rfl) ?_
  · obtain ⟨x, t, rfl⟩ := h3 f hm
    exact PySem.W.Looks.now
  · have e : (Value.type "str" != Value.type "tuple") = true := by first | decide +kernel | rfl | decide
    rw [e]
    exact hq
theorem sorted_ts {l : Addr} {vs : List Value} {k : Value → List Str} {Q : Value → Shared → Prop} (hl : s.heap.IsList l vs.toArray) (hz : vs.length ≤ sizeLine) (hp : ∀ v ∈ vs, IsTS s.heap v (k v) ∧ k v ≠ [])
    (h : ∀ (h' : Heap) (d : Addr) (out : List Value), SrtO.Srtd (fun v u => lexT (k v) (k u)) out → SrtO.Stb (fun v u => lexT (k v) (k u)) out vs → (∀ b o, s.heap.get? b = some o → h'.get? b = some o) → s.heap.objs.size ≤ d → (∃ n, h'.get? d = some (seqObj "list" out.toArray n)) → Q (.ref d) { s with heap := h' }) :
    wpAny (model prog w) A (call (.builtin "sorted") [.ref l]) Q E s := by
  refine SrtO.sorted_ord (lexT_swo k) hl hz (fun h2 h₁ a ha kk => ?_) fun out hs hb => ?_
  · refine ts_sortable (s := { s with heap := h₁ }) (by omega) (fun v hm => ⟨(hp v hm).1.keeps fun b o e _ => (kk b o e).2, (hp v hm).2⟩) fun o e => ?_
    have e' : some o = some (seqObj "list" vs.toArray 0) := e.symm.trans ha
    cases e'
    intro c
    exact absurd (Value.type.inj c) (by decide)
  · exact h _ _ out hs hb (fun b o e => sortedAll_old e) (Nat.le_succ _) (sortedAll_at s.heap vs out.toArray)
end
open L2 PySem.Spec
/-- sorted(l), l a list of tuples of texts, none of them empty -/
def rSortedTS (K : PySem.W.Frag) : List V → Hp → VK → Prop := fun vs H Q => ∃ (a : Addr) (xs : List V) (k : V → List Str), vs = [V.ref a] ∧ SqL K H a xs ∧ (∀ x ∈ xs, k x ≠ [] ∧ ∃ t, x = V.ref t ∧ H t = some (.tup ((k x).map V.str))) ∧
  ∀ ys p, SrtO.Srtd (fun x y => lexT (k x) (k y)) ys → SrtO.Stb (fun x y => lexT (k x) (k y)) ys xs → H p = none → Q (.ref p) (upd H p (.lst ys))
section
variable {X : Cx}
theorem cr_sortedTS : CallR X (.builtin "sorted") (rSortedTS X.K) := by
  intro pins s σ H vs us Q I r h
  obtain ⟨a, xs, k, rfl, hs, hx, q⟩ := h
  obtain ⟨its, rv, hl, hz⟩ := I.list hs
  obtain ⟨u, rfl, ru⟩ := vals1 r
  obtain rfl : u = Value.ref a := ru
  obtain ⟨e1, e2⟩ := refs_back rv fun x m => by
    obtain ⟨_, t, e, _⟩ := hx x m
    exact ⟨t, e⟩
  refine sorted_ts (k := fun u => k (backV u)) hl.isList (by rw [← rv.length]; exact hz) (fun v hv => ?_) fun h' d out h1 h2 kp hd hn => ?_
  · obtain ⟨t, rfl⟩ := e2 v hv
    have hm : V.ref t ∈ xs := by rw [e1]; exact List.mem_map.mpr ⟨_, hv, rfl⟩
    obtain ⟨ne, t', e, ht⟩ := hx _ hm
    cases e
    obtain ⟨_, its2, r2, o, ho, hc, n, hd⟩ := I.hok _ _ ht
    exact ⟨⟨t, o, its2.toArray, n, rfl, ho, hc, hd, (show StrsAre its2 (k (V.ref t)) from r2.strs)⟩, ne⟩
  · have h3 : ∀ u ∈ out, ∃ a, u = Value.ref a := fun u hu => e2 u (h2.perm.mem_iff.mp hu)
    obtain ⟨n, hn⟩ := hn
    have hb : SrtO.Stb (fun x y => lexT (k x) (k y)) (out.map backV) xs := by
      rw [e1]
      exact SrtO.Stb.map (lexT_swo k) backV h2
    refine ⟨.ref d, upd H d (.lst (out.map backV)), I.laid (t' := s.toks) kp hd ⟨?_, out, n, vals_back h3, hn⟩, rfl, q _ d (SrtO.srtd_map h1) hb (I.hok.fresh hd)⟩
    rw [hb.len]
    exact hz
end
end Zs
set_option maxHeartbeats 4000000
/-! My own rules: the operators that a class of the text defines; methods called by name; defs by their promise. -/
namespace Zo
open PySem PySem.Spec PyProof.Rows L2
/-! ### defs by their promise (no repr in them) -/
def Dfo (P : Program) (w : World) (K : PySem.W.Frag) (mg : Str → Option Value) (base : Heap) (k : Nat) (x : Str) (ps : List Str) (sp : Sp) : Prop :=
  ∃ f fd, FnOk P w K mg base CX0 k f fd ps sp ∧ mg x = some (.ref f) ∧ PySem.W.keepIn K (.ref f) = true ∧ Binds K fd ps []
theorem Dfo.imp {P : Program} {w : World} {K : PySem.W.Frag} {mg : Str → Option Value} {base : Heap} {k : Nat} {x : Str} {ps : List Str} {sp sp2 : Sp} (D : Dfo P w K mg base k x ps sp) (h : ∀ vs H Q E, sp2 vs H Q E → sp vs H Q E) : Dfo P w K mg base k x ps sp2 := by
  obtain ⟨f, fd, F, m, kp, b⟩ := D
  exact ⟨f, fd, ⟨fun vs H Q E z => F.len vs H Q E (h _ _ _ _ z), fun A out s H ar us vs Q E hr he hb r z => F.run A out s H ar us vs Q E hr he hb r (h _ _ _ _ z)⟩, m, kp, b⟩
theorem plo {P : Program} {w : World} {K : PySem.W.Frag} {mg : Str → Option Value} {base : Heap} {k : Nat} {x : Str} {st : Stmt} {ps : List Str} {sp : Sp} {f : Addr} {fd : FuncData} (p : Zk.Pl K mg x st ps f fd) (G : FnOk P w K mg base CX0 k f fd ps sp) :
    Dfo P w K mg base k x ps sp := ⟨f, fd, G, p.m, p.F.kp, p.b⟩
/-- a method, or an operator, of the class at C -/
structure Dun (K : PySem.W.Frag) (C g : Addr) (nm : Str) : Prop where
  at_ : PySem.W.findIn K (.ref C) nm = some (some (.ref g))
  fn : PySem.W.isFn K (.ref g) = true
theorem cmpBack {H : Hp} {z : V} {u : Value} {s : Shared} {P : Value → Shared → Prop} (r : RelV z u) (h : P u s) : PySem.W.CmpBack P u s := by
  cases u with
  | notImplemented => cases z <;> first | (obtain ⟨_, q⟩ := r; cases q; done) | (cases r; done)
  | _ => exact h
section
variable {X : Cx} {k : Nat} {C g : Addr} {fd : FuncData} {ps : List Str} {sp : Sp} {x : Str} {p pos : Pos} {e : Expr} {es : List Expr} {t : TA}
theorem po_call (D : Dfo X.prog X.w X.K X.mg X.base k x ps sp) (hr : Room k X.A) (hg : Gl X x) (ha : PA X (e :: es) t) (hdb : (x == ("__debug__" : Str)) = false := by decide)
    (he : starEach (e :: es) X.env = (false, eval e X.env) :: starEach es X.env := by rfl) (hpl : (backTo pos (starEach es X.env)).any (·.1) = false := by rfl) :
    PE X (.Call (.Name x p) (e :: es) [] pos) (tCall sp [] E0 t) := by
  obtain ⟨f, fd, F, m, kp, b⟩ := D
  exact pe_call F hr hg m kp b .nil pass0 ha hdb he hpl
/-- two instances of the class, and what its operator makes of them -/
def rOwn (C : Addr) (sp : Sp) : R2 := fun x y H Q => ∃ a dx fs b dy fy, x = .ref a ∧ y = .ref b ∧ H a = some (.ins C dx fs) ∧ H b = some (.ins C dy fy) ∧ sp [.ref a, .ref b] H Q E0
theorem op_own {op : Operator} (hc : PySem.W.selfFirst X.K C = true) (d : Dun X.K C g (PySem.dunder op.info.2)) (F : FnOk X.prog X.w X.K X.mg X.base CX0 k g fd ps sp) (hr : Room k X.A) (hb : Binds X.K fd ps []) : OpR X (binaryOp op) (rOwn C sp) := by
  intro pins s σ H x y v u Q I rx ry h
  obtain ⟨a, dx, fs, b, dy, fy, rfl, rfl, ea, eb, q⟩ := h
  obtain rfl : v = Value.ref a := rx
  obtain rfl : u = Value.ref b := ry
  obtain ⟨m, Z⟩ := I.fr
  obtain ⟨mA, O, _⟩ := ins_get I.hok ea
  obtain ⟨od, J, _⟩ := O.look
  obtain ⟨mB, O2, _⟩ := ins_get I.hok eb
  obtain ⟨od2, J2, _⟩ := O2.look
  refine PySem.W.binop_K Z I.ok.mod.kin J J2.type hc d.at_ d.fn ?_
  refine wpAny_mono (run_fn (vs := [V.ref a, V.ref b]) F hr hb .nil pass0 I (.cons rfl (.cons rfl .nil)) q) ?_ fun _ _ z => z
  rintro r s' ⟨z, H', I', rz, qz⟩
  exact cmpBack (H := H') rz ⟨z, H', I', rz, qz⟩
/-- == by an own __eq__ -/
theorem op_eqOwn (d : Dun X.K C g "__eq__") (hn : PySem.W.notFirst X.K C (.ref C) = true) (F : FnOk X.prog X.w X.K X.mg X.base CX0 k g fd ps sp) (hr : Room k X.A) (hb : Binds X.K fd ps []) (hu : X.A.units < cLine) : OpR X (compareOp .Eq) (rOwn C sp) := by
  intro pins s σ H x y v u Q I rx ry h
  obtain ⟨a, dx, fs, b, dy, fy, rfl, rfl, ea, eb, q⟩ := h
  obtain rfl : v = Value.ref a := rx
  obtain rfl : u = Value.ref b := ry
  obtain ⟨m, Z⟩ := I.fr
  obtain ⟨mA, O, _⟩ := ins_get I.hok ea
  obtain ⟨od, J, _⟩ := O.look
  obtain ⟨mB, O2, _⟩ := ins_get I.hok eb
  obtain ⟨od2, J2, _⟩ := O2.look
  refine PySem.W.cmp_K (op := .Eq) hu Z I.ok.mod.kin J J2.type hn d.at_ d.fn ?_
  refine wpAny_mono (run_fn (vs := [V.ref a, V.ref b]) F hr hb .nil pass0 I (.cons rfl (.cons rfl .nil)) q) ?_ fun _ _ z => z
  rintro r s' ⟨z, H', I', rz, qz⟩
  exact cmpBack (H := H') rz ⟨z, H', I', rz, qz⟩
/-- x in a, by an own __contains__ -/
def rInOwn (C : Addr) (sp : Sp) (neg : Bool) : R2 := fun x y H Q => ∃ b dy fy, y = .ref b ∧ H b = some (.ins C dy fy) ∧ sp [.ref b, x] H (fun v H' => ∃ c, v = .bl c ∧ Q (.bl (if neg then !c else c)) H') E0
theorem op_inOwn (d : Dun X.K C g "__contains__") (F : FnOk X.prog X.w X.K X.mg X.base CX0 k g fd ps sp) (hr : Room k X.A) (hb : Binds X.K fd ps []) : OpR X (compareOp .In) (rInOwn C sp false) := by
  intro pins s σ H x y v u Q I rx ry h
  obtain ⟨b, dy, fy, rfl, eb, q⟩ := h
  obtain rfl : u = Value.ref b := ry
  obtain ⟨m, Z⟩ := I.fr
  obtain ⟨mB, O2, _⟩ := ins_get I.hok eb
  obtain ⟨od2, J2, _⟩ := O2.look
  refine PySem.W.in_K Z I.ok.mod.kin J2 d.at_ d.fn ?_
  refine wpAny_mono (run_fn (vs := [V.ref b, x]) F hr hb .nil pass0 I (.cons rfl (.cons rx .nil)) q) ?_ fun _ _ z => z
  rintro r s' ⟨z, H', I', rz, c, rfl, qz⟩
  cases rz
  exact wpAny_truthy_bool ⟨.bl c, H', I', rfl, qz⟩
theorem op_notInOwn (d : Dun X.K C g "__contains__") (F : FnOk X.prog X.w X.K X.mg X.base CX0 k g fd ps sp) (hr : Room k X.A) (hb : Binds X.K fd ps []) : OpR X (compareOp .NotIn) (rInOwn C sp true) := by
  intro pins s σ H x y v u Q I rx ry h
  obtain ⟨b, dy, fy, rfl, eb, q⟩ := h
  obtain rfl : u = Value.ref b := ry
  obtain ⟨m, Z⟩ := I.fr
  obtain ⟨mB, O2, _⟩ := ins_get I.hok eb
  obtain ⟨od2, J2, _⟩ := O2.look
  refine PySem.W.notIn_K Z I.ok.mod.kin J2 d.at_ d.fn ?_
  refine wpAny_mono (run_fn (vs := [V.ref b, x]) F hr hb .nil pass0 I (.cons rfl (.cons rx .nil)) q) ?_ fun _ _ z => z
  rintro r s' ⟨z, H', I', rz, c, rfl, qz⟩
  cases rz
  exact wpAny_truthy_bool ⟨.bl (!c), H', I', rfl, qz⟩
/-- run by its promise, wherever there is room -/
theorem run_at {A : Around} {E' : Value → Shared → Prop} {pins : List (Addr × Obj)} {σ : L2.St} {H : Hp} {s : Shared} {Q : VK} {us : List Value} {vs : List V} (F : FnOk X.prog X.w X.K X.mg X.base CX0 k g fd ps sp) (hr : Room k A) (e0 : Env0 X.prog X.w X.K X.mg X.base A X.stack s H) (hb : Binds X.K fd ps [])
    (I : Inv X pins σ H s) (r : Vals vs us) (h : sp vs H Q E0) : wpAny (model X.prog X.w) A (call (.ref g) us) (EP X pins σ Q) E' s := by
  have hl : us.length = ps.length := r.length.symm.trans (F.len _ _ _ _ h)
  have hb' : BindsTo s fd ⟨us, []⟩ (ps.zip us) := by
    have z := hb s us I.kIn (by rw [List.append_nil]; exact hl)
    rwa [List.append_nil] at z
  refine wpAny_call (codeAny_mono (F.run A X.stack s H ⟨us, []⟩ us vs Q E0 hr e0 hb' r h) ?_)
  intro r s' hq
  match r, hq with
  | .error e, hq => exact (show False from hq).elim
  | .ok (.ret u), hq => exact I.after hq
  | .ok .next, hq => exact False.elim hq
  | .ok .brk, hq => exact False.elim hq
  | .ok .cont, hq => exact False.elim hq
end
/-! ### != where the class has == alone -/
section
open PySem.Calls
variable {prog : Program} {w : World} {A : Around} {E : Value → Shared → Prop} {s : Shared} {K : PySem.W.Frag} {x y C g : Addr} {ox : Obj} {od : Option Obj}
theorem ne_body {Q : Fin → Shared → Prop} (hu : A.units < cLine) (Xs : K.In s.heap) (J : PySem.W.InstAt s.heap x ox C od) (d : Dun K C g "__eq__")
    (h : wpAny (model prog w) A (call (.ref g) [.ref x, .ref y]) (fun v s' => ∃ c, v = .bool c ∧ Q (.done (.ret (.bool (!c)))) s') E s) :
    wpAny (model prog w) A (Builtin.«object.__ne__» ⟨[.ref x, .ref y], []⟩) Q E s := by
  unfold Builtin.«object.__ne__»
  refine wpAny_bind (m := slotArgs "__ne__" 1 _) (wpAny_pure ?_)
  refine wpAny_bind (wpAny_cRoomFor hu ?_)
  refine wpAny_bind (PySem.W.ifBound_K Xs J d.at_ d.fn (wpAny_mono h ?_ fun _ _ z => z))
  rintro v s' ⟨c, rfl, q⟩
  refine wpAny_bind (wpAny_truthy_bool ?_)
  exact wpAny_pure q
theorem ne_check {Q : Unit → Shared → Prop} (Xs : K.In s.heap) (J : PySem.W.InstAt s.heap x ox C od) (hob : PySem.W.subIn K (.ref C) (.type "object") = some true) (h : Q () s) :
    wpAny (model prog w) A (checkBuiltinCall "object.__ne__" ⟨[.ref x, .ref y], []⟩) Q E s := by
  simp only [checkBuiltinCall, F.cmpKind_ne, F.cmpSplit_ne]
  refine wpAny_bind ?_
  unfold isInstance
  refine wpAny_bind (J.type.here ?_)
  refine (PySem.W.looks_subIn Xs hob).here ?_
  rw [if_neg (by decide)]
  have z := F.cmpArgs_ne (.ref x) (.ref y)
  unfold argsOk at z
  generalize Manifest.signature? "object.__ne__" = sg at z ⊢
  cases sg with
  | none => exact wpAny_pure h
  | some sig =>
    have z2 : Bind.checkArgs "object.__ne__" sig ⟨[.ref x, .ref y], []⟩ = pure () := z
    show wpAny _ _ (Bind.checkArgs "object.__ne__" sig ⟨[.ref x, .ref y], []⟩) _ _ _
    rw [z2]
    exact wpAny_pure h
theorem ne_call {Q : Value → Shared → Prop} (hu : A.in1.units < cLine) (Xs : K.In s.heap) (J : PySem.W.InstAt s.heap x ox C od) (hob : PySem.W.subIn K (.ref C) (.type "object") = some true) (d : Dun K C g "__eq__")
    (h : wpAny (model prog w) A.in1 (call (.ref g) [.ref x, .ref y]) (fun v s' => ∃ c, v = .bool c ∧ Q (.bool (!c)) s') E s) :
    wpAny (model prog w) A (call (.builtin "object.__ne__") [.ref x, .ref y]) Q E s := by
  refine wpAny_call (codeAny_call_builtin F.cmp_object.ne.plain F.cmpEntry_ne (ne_check Xs J hob (ne_body hu Xs J d ?_)))
  exact h
theorem ne_special {Q : Option Value → Shared → Prop} (hu : A.in1.units < cLine) (Xs : K.In s.heap) (J : PySem.W.InstAt s.heap x ox C od) (hob : PySem.W.subIn K (.ref C) (.type "object") = some true) (d : Dun K C g "__eq__")
    (hne : PySem.W.findIn K (.ref C) "__ne__" = some (some (.builtin "object.__ne__")))
    (h : wpAny (model prog w) A.in1 (call (.ref g) [.ref x, .ref y]) (fun v s' => ∃ c, v = .bool c ∧ Q (some (.bool (!c))) s') E s) :
    wpAny (model prog w) A (tryCompare (.ref x) "__ne__" (.ref y)) Q E s := by
  have one : wpAny (model prog w) A (call (.builtin "object.__ne__") [.ref x, .ref y]) (fun v s' => ∃ c, v = .bool c ∧ Q (some (.bool c)) s') E s := by
    refine ne_call hu Xs J hob d (wpAny_mono h ?_ fun _ _ z => z)
    rintro v s' ⟨c, rfl, q⟩
    exact ⟨c, rfl, !c, rfl, q⟩
  unfold tryCompare
  refine wpAny_bind ?_
  simp only [callSpecialIfBound?, bindSpecialIfBound?]
  refine wpAny_holding (wpAny_bind (wpAny_bind (wpAny_bind (J.type.here ((PySem.W.looks_findIn Xs hne).here ?_)))))
  refine wpAny_bind (wpAny_askSetting (wpAny_ite ?_))
  have fin : wpAny (model prog w) A (call (.builtin "object.__ne__") ([.ref x] ++ [.ref y]) >>= fun v => pure (some v)) (fun v s' => ∃ c, v = some (.bool c) ∧ Q (some (.bool c)) s') E s :=
    wpAny_bind (wpAny_mono one (fun v s' ⟨c, e, q⟩ => wpAny_pure ⟨c, by rw [e], q⟩) fun _ _ h' => h')
  have bnd : ∀ v : Value, bindSpecial (.builtin "object.__ne__") v = pure (.builtin "object.__ne__", [v]) := F.cmp_object.ne.bind
  have out : ∀ (v : Option Value) (s' : Shared), (∃ c, v = some (Value.bool c) ∧ Q (some (.bool c)) s') → wpAny (model prog w) A (match v with
      | some .notImplemented => pure none
      | none => pure none
      | some v => pure (some v)) Q E s' := by
    rintro v s' ⟨c, rfl, q⟩
    exact wpAny_pure q
  rw [bnd]
  split
  · refine wpAny_bind (wpAny_pure (wpAny_pure ?_))
    exact wpAny_mono fin out fun _ _ z => z
  · refine wpAny_tryCatch (wpAny_bind (wpAny_pure (wpAny_pure ?_)))
    exact wpAny_mono fin out fun _ _ z => z
end
section
variable {X : Cx} {k : Nat} {C g : Addr} {fd : FuncData} {ps : List Str} {sp : Sp}
/-- two instances of a class that has an own == alone -/
def rNeOwn (C : Addr) (sp : Sp) : R2 := fun x y H Q => ∃ a dx fs b dy fy, x = .ref a ∧ y = .ref b ∧ H a = some (.ins C dx fs) ∧ H b = some (.ins C dy fy) ∧ sp [.ref a, .ref b] H (fun v H' => ∃ c, v = .bl c ∧ Q (.bl (!c)) H') E0
theorem op_neOwn (d : Dun X.K C g "__eq__") (hne : PySem.W.findIn X.K (.ref C) "__ne__" = some (some (.builtin "object.__ne__"))) (hob : PySem.W.subIn X.K (.ref C) (.type "object") = some true)
    (F : FnOk X.prog X.w X.K X.mg X.base CX0 k g fd ps sp) (hr : Room (k + 1) X.A) (hb : Binds X.K fd ps []) : OpR X (compareOp .NotEq) (rNeOwn C sp) := by
  intro pins s σ H x y v u Q I rx ry h
  obtain ⟨a, dx, fs, b, dy, fy, rfl, rfl, ea, eb, q⟩ := h
  obtain rfl : v = Value.ref a := rx
  obtain rfl : u = Value.ref b := ry
  obtain ⟨mA, O, _⟩ := ins_get I.hok ea
  obtain ⟨od, J, _⟩ := O.look
  obtain ⟨mB, O2, _⟩ := ins_get I.hok eb
  obtain ⟨od2, J2, _⟩ := O2.look
  show wpAny _ _ (richCompare .NotEq (.ref a) (.ref b)) _ _ _
  unfold richCompare
  simp only [oneThing_ref]
  refine wpAny_holding (wpAny_bind (wpAny_cRoomFor hr.units0 ?_))
  refine wpAny_bind (J.type.here (wpAny_bind (J2.type.here ?_)))
  rw [if_neg (by simp)]
  refine wpAny_bind (wpAny_pure ?_)
  rw [if_neg (by simp)]
  refine wpAny_bind (ne_special hr.in1.units0 I.kIn J hob d hne (wpAny_mono (run_at (vs := [V.ref a, V.ref b]) F hr.in1 I.env0.in1 hb I (.cons rfl (.cons rfl .nil)) q) ?_ fun _ _ z => z))
  rintro r s' ⟨z, H', I', rz, c, rfl, qz⟩
  cases rz
  refine ⟨c, rfl, ?_⟩
  exact wpAny_pure ⟨.bl (!c), H', I', rfl, qz⟩
end
/-! ### a method called by its parameter's name -/
section
variable {X : Cx} {k : Nat} {C g : Addr} {fd : FuncData} {ps : List Str} {sp : Sp} {o e : Expr} {m f sf : Str} {apos pos kp : Pos} {ta te : TE}
theorem pe_mK {pl : Sem Bool} (he : PE X o ta) (c : Cls X.K C) (hm : Meth X.K C m g) (F : FnOk X.prog X.w X.K X.mg X.base CX0 k g fd [sf, f] sp) (hr : Room k X.A) (hb : ∀ (s : Shared) (x u : Value), BindsTo s fd ⟨[x], [(f, u)]⟩ [(sf, x), (f, u)]) (hv : PE X e te)
    (hall : (backToKw pos (keywordEach [⟨f, e, kp⟩] X.env)).all (·.1.isSome) = true := by rfl) (hks : (backToKw pos (keywordEach [⟨f, e, kp⟩] X.env)).filterMap (·.1) = [f] := by rfl)
    (hpl : ((backTo pos (starEach [] X.env)).any (·.1) || (backToKw pos (keywordEach [⟨f, e, kp⟩] X.env)).any (·.1.isNone)) = false := by rfl)
    (ht : eval (.Call (.Attribute o m apos) [] [⟨f, e, kp⟩] pos) X.env = (do
      let ov ← eval o X.env
      standAt apos.atName
      let (f', first) ← holding [ov] (getMethod ov m pl)
      callWith pos f' first (backTo pos (starEach [] X.env)) (backToKw pos (keywordEach [⟨f, e, kp⟩] X.env))) := by rfl) :
    PE X (.Call (.Attribute o m apos) [] [⟨f, e, kp⟩] pos) (tMeth C m sp [] E0 ta (tCons te tNil)) := by
  constructor
  intro pins s σ H Q I h
  refine PySem.W.methodCall_KW (pl := pl) (thn (he.run pins s σ H _ I h) ?_) ht
  rintro u s1 ⟨x, H1, I1, rx, a, dx, fs, rfl, ea, l, q⟩
  obtain rfl : u = Value.ref a := rx
  refine getmeth_ok I1 ea c hm l ?_
  refine PySem.W.callWith_KW0 (h₀ := X.base) I.ok.mod.kin hm.kp hall ?_ hpl
  have hkw : PK X [⟨f, e, kp⟩] (tCons te tNil) := pk_cons hv pk_nil
  refine thn (hkw.run pos pins s1 σ H1 _ I1 q) ?_
  rintro us s2 ⟨vs, H2, I2, r, q2⟩
  refine ⟨I2.kIn, ?_⟩
  rw [hks]
  have q' : sp (V.ref a :: vs) H2 Q E0 := by
    have z : sp (V.ref a :: (vs ++ [])) H2 Q E0 := q2
    rwa [List.append_nil] at z
  have hl : vs.length = 1 := Nat.succ.inj (F.len _ _ _ _ q')
  obtain ⟨v, rfl⟩ : ∃ v, vs = [v] := by
    match vs, hl with
    | [v], _ => exact ⟨v, rfl⟩
  obtain ⟨u, rfl, rv⟩ := vals1 r
  · have z := F.run X.A X.stack s2 H2 ⟨[.ref a], [(f, u)]⟩ [.ref a, u] [.ref a, v] Q E0 hr I2.env0 (hb s2 (.ref a) u) (.cons rfl r) q'
    refine wpAny_call (codeAny_mono z ?_)
    intro r s' hq
    match r, hq with
    | .error e, hq => exact (show False from hq).elim
    | .ok (.ret u), hq => exact I2.after hq
    | .ok .next, hq => exact False.elim hq
    | .ok .brk, hq => exact False.elim hq
    | .ok .cont, hq => exact False.elim hq
end
end Zo
set_option maxHeartbeats 4000000
/-! My own rules: dict comprehensions whose keys are tuples. -/
namespace Zd
open PySem PySem.Spec PyProof.Rows L2
/-- the new entry of a dict with tuple keys -/
theorem put_tup {X : Cx} {pins : List (Addr × Obj)} {σ : L2.St} {H : Hp} {s : Shared} {A : Around} {E : Value → Shared → Prop} {D b : Addr} {kvs : List (List Key × V)} {k : List Key} {v : V} {r : Value} {Q : Unit → Shared → Prop} (hu : A.units + 1 < cLine) (I : Inv X pins σ H s)
    (hD : H D = some (.dT kvs)) (hb : H b = some (.tup (k.map kV))) (room : kvs.length < sizeLine) (rv : RelV v r) (q : ∀ s', Inv X pins σ (upd H D (.dT (putK kvs k v))) s' → Q () s') : wpAny (model X.prog X.w) A (dictSet D (.ref b) r) Q E s := by
  obtain ⟨z1, z2, rows, rel, now⟩ := dt_of I.hok hD
  have e1 : rows.length = kvs.length := (Paired.length rel).symm
  have e2 := length_putK kvs k v
  refine wpAny_dictSet_heap (hsz := by omega) (show (tupleKind (mixKind X.prog X.w)).room A from Nat.lt_of_succ_lt hu) (key_of I.hok hb) now fun h1 ⟨o, es, ep, g1, g2, g3, g4, _, g5⟩ stay => q _ ?_
  have rel2 := (rel.put k hb rv).keeps (H' := upd H D (.dT (putK kvs k v))) fun c ys ec => (upd_ne (ne_of ec hD (fun z => nomatch z))).trans ec
  exact d_write I (by rw [hD]; trivial) stay ⟨o, g1⟩ ⟨Nat.le_trans e2 room, z2, _, rel2, o, es, ep, g1, g2, g3, g4, g5⟩
/-- in each of the blocks that a comprehension may run in -/
abbrev AllBlk (X : Cx) (scope : Scope) (J : Cx → Prop) : Prop := ∀ (s : Shared) (H : Hp) (C : Addr) (cl : List (Str × Addr)) (fp : List Addr), J (X.blk s H scope (compEnvC scope cl C X.env) fp)
section
variable {X : Cx}
/-- one turn: a target's value goes in, the tests, the key, the value; Go behind the entry or behind a test that fails -/
def turnT (D : Addr) (g : TG) (tt : TT) (tk tv : TE) (sl : List Nat) (σ : L2.St) (Go : Hp → Prop) (x : V) (H : Hp) : Prop :=
  g x (wipe σ sl) H fun σ2 H2 => wipe σ2 sl = wipe σ sl ∧ tt σ2 H2 fun c H3 => if c = true then tk σ2 H3 fun y H4 => tv σ2 H4 fun z H5 => ∃ kvs k b, y = .ref b ∧ H5 b = some (.tup (k.map kV)) ∧ H5 D = some (.dT kvs) ∧ kvs.length < sizeLine ∧ Go (upd H5 D (.dT (putK kvs k z))) else Go H3
def turnsT (J : It) (D : Addr) (g : TG) (tt : TT) (tk tv : TE) (sl : List Nat) (σ : L2.St) (H0 : Hp) (Qd : Hp → Prop) : Prop :=
  ∃ W : Nat → Nat → Hp → Prop, (∃ m, W 0 m (upd H0 D (.dT []))) ∧ ∀ i m H, W i m H → (J.stop i H ∧ Qd H) ∨ (J.go i H ∧ ∃ Go : Hp → Prop, (∀ H', Go H' → ∃ m', m' < m ∧ W (i + 1) m' H') ∧ ∀ x H', J.yld i H x H' → turnT D g tt tk tv sl σ Go x H')
/-- {k: v for target in iter if ..}, k a tuple -/
def tDcT (wi : TI) (g : TG) (tt : TT) (tk tv : TE) (sl : List Nat) : TE := fun σ H Q => wi σ H fun J H1 => ∀ D, H1 D = none → turnsT J D g tt tk tv sl σ H1 fun H2 => Q (.ref D) H2
theorem pe_dcT {kx vx tg iter : Expr} {ifs : List Expr} {scope : Scope} {own : List (Str × Nat)} {pos : Pos} {wi : TI} {g : TG} {tt : TT} {tk tv : TE} (hu : X.A.units + 1 < cLine) (hc : X.calm = true) (hN : X.N.Nodup) (hi : PI X tg iter wi) (ok : BlkOk X.N X.env.scope scope own)
    (hg : AllBlk X scope fun Z => PG Z tg g) (ht : AllBlk X scope fun Z => PTs Z ifs tt) (hk : AllBlk X scope fun Z => PE Z kx tk) (hv : AllBlk X scope fun Z => PE Z vx tv) (hs : ∀ x, foldedSetIterable iter X.env x = pure x := by intro _; rfl) :
    PE X (.DictComp kx vx [⟨tg, iter, ifs, 0⟩] scope pos) (tDcT wi g tt tk tv (own.map (·.2))) := by
  refine ⟨fun pins s0 σ H0 Q I0 h => ?_⟩
  rw [arm_eval_DictComp]
  -- what the block takes from outside
  have outside : ∀ y ∈ scope.names, y.2 = .free → ∃ c, X.env.cells.lookup y.1 = some c := by
    intro y my e
    cases ok.free y my e with
    | inl k => exact I0.ok.has _ (.inl k)
    | inr k => exact I0.ok.has _ (.inr k)
  refine wpAny_comprehension_free rfl hs (closure_ok outside) ok.kind (fun y my e => by rw [ok.uniq y my, e]) (thn (hi.run pins s0 σ H0 _ I0 h) fun v s1 z => thn z fun itv s2 z2 => ?_)
  obtain ⟨it, fp, tn, J, H2, rfl, I2, T, st2, f2, turns⟩ := z2
  refine wpAny_newObj_type (newEnv_comp ?_)
  generalize eD : s2.heap.objs.size = D
  obtain ⟨W, ⟨m0, w0⟩, turn⟩ := turns D (I2.hok.fresh (by rw [eD]; exact Nat.le_refl _))
  -- the heap with the new dict
  generalize eS : ({ s2 with heap := s2.heap.push { cls := .type "dict", data := .dict #[] } } : Shared) = s3
  have g3 : s3.heap = s2.heap.push { cls := .type "dict", data := .dict #[] } := by rw [← eS]
  generalize eH : upd H2 D (.dT []) = H3 at w0
  have I3 : Inv X pins σ H3 s3 := by
    rw [← eS, ← eH]
    refine I2.laid (t' := s2.toks) (fun _ _ e => Heap.get?_push_of_some _ e) (by rw [eD]; exact Nat.le_refl _) ?_
    rw [← eD]
    exact dt_empty s2.heap I2.big
  have old : ∀ b ∈ fp, b < D := fun b mb => by
    obtain ⟨_, e, _⟩ := T.obj _ _ st2 b mb
    rw [← eD]
    exact Heap.lt_size e
  have f3 : ∀ b ∈ fp, FpOk X pins H3 b ∧ b < s3.heap.objs.size := fun b mb => by
    refine ⟨⟨?_, (f2 b mb).2⟩, ?_⟩
    · rw [← eH, upd_ne (Nat.ne_of_lt (old b mb))]
      exact (f2 b mb).1
    · rw [g3, Heap.size_push, eD]
      exact Nat.lt_succ_of_lt (old b mb)
  have n3 : ∀ b ∈ fp, H3 b = none := fun b mb => (f3 b mb).1.1
  have st3 : tn 0 s3.heap := T.keep _ _ _ st2 fun b _ o e => by
    rw [g3]
    exact Heap.get?_push_of_some _ e
  -- the block's own frame
  have I4 := block_start I3 ok hN f3
  generalize eC : s3.heap.objs.size = C at I4
  generalize eL : cellsFrom (C + 1) scope.names (cloFrom X.env.cells scope.names []) = cl at I4
  have pg := hg s3 H3 C cl fp
  have pt := ht s3 H3 C cl fp
  have pk := hk s3 H3 C cl fp
  have pv := hv s3 H3 C cl fp
  have locC : (compEnvC scope cl C X.env).locals = C := rfl
  rw [eC] at f3
  show codeAny _ _ (.compStart (.DictComp kx vx [⟨tg, iter, ifs, 0⟩] scope pos) 0 (.ref it) (.ref D) (compEnvC scope cl C X.env)) (compPost _ X.A X.xe _ _ (.ref D) C) { s3 with heap := pushCells (s3.heap.push { cls := .type "dict", data := .dict #[] }) scope.names }
  generalize compEnvC scope cl C X.env = ce at I4 pg pt pk pv locC ⊢
  generalize eT : ({ s3 with heap := pushCells (s3.heap.push { cls := .type "dict", data := .dict #[] }) scope.names } : Shared) = s4 at I4 ⊢
  have st4 : tn 0 s4.heap := T.keep _ _ _ st3 fun b _ o e => by
    rw [← eT]
    exact pushCells_keeps _ _ _ _ (Heap.get?_push_of_some _ e)
  have fpo : ∀ {σ1 : L2.St} {H1 : Hp} {s1 : Shared}, Inv (X.blk s3 H3 scope ce fp) [] σ1 H1 s1 → (∀ b ∈ fp, H1 b = none) → ∀ b ∈ fp, FpOk (X.blk s3 H3 scope ce fp) [] H1 b := by
    intro σ1 H1 s1 I1 n1 b mb
    refine ⟨n1 b mb, (I1.ok.exf b mb).1, I1.ok.exfs b mb, .inl mb, fun x c e => (I1.ok.exf b mb).2 x c e, fun p mp => ?_⟩
    have mp : p ∈ ([] : List (Addr × Obj)) ++ [] := mp
    cases mp
  suffices loop : codeAny (model X.prog X.w) X.A (.compLoop (.DictComp kx vx [⟨tg, iter, ifs, 0⟩] scope pos) 0 (.ref it) (.ref D) ce) _ s4 from codeAny_compStart_dict loop (T.self X.A 0 _ _ _ st4 loop)
  refine compLoop_anyD (fun n s5 => ∃ i H5, W i n H5 ∧ tn i s5.heap ∧ (∀ b ∈ fp, H5 b = none) ∧ Inv (X.blk s3 H3 scope ce fp) [] (wipe σ (own.map (·.2))) H5 s5) (fun n s5 z5 => ?_) m0 ⟨0, H3, w0, st4, n3, I4⟩
  obtain ⟨i, H5, w5, st5, n5, I5⟩ := z5
  cases turn i n H5 w5 with
  | inl z =>
    obtain ⟨stop, q⟩ := z
    refine thnF (T.done (X.blk s3 H3 scope ce fp) rfl rfl rfl hc i [] s5 _ H5 (fun _ _ => False) I5 (fpo I5 n5) st5 stop) fun r s6 z6 => ?_
    obtain ⟨rfl, I6⟩ := z6
    have I7 : Inv X pins σ H5 s6 := I3.call' (ch := fp) I6.os I6.base I6.hok I6.bare fun b mb => by
      obtain ⟨⟨_, a1, a2, a3, a4, a5⟩, _⟩ := f3 b mb
      exact ⟨a3, a1, a4, a5⟩
    have nC : H5 C = none := by
      have z : H5 ce.locals = none := I6.free
      rwa [locC] at z
    obtain ⟨m, hn, _⟩ := I6.loc
    have hn : s6.heap.Ns ce.locals m := hn
    rw [locC] at hn
    obtain ⟨b0, b1, b2, b3, b4, b5⟩ := I3.fpOk (Nat.le_of_eq eC) nC
    exact ⟨m, hn, fun h'' sb => ⟨.ref D, H5, I7.turned (t' := s6.toks) (fun b o hb e => (sb.2 b hb).trans e) b0 b1 b3 b4 b5, rfl, q⟩⟩
  | inr z =>
    obtain ⟨go, Go, dec, step⟩ := z
    refine thnF (T.item (X.blk s3 H3 scope ce fp) rfl rfl rfl hc i [] s5 _ H5 (fun _ _ => False) I5 (fpo I5 n5) st5 go) fun r s6 z6 => ?_
    obtain ⟨u, rfl, h6⟩ := z6
    refine thnF h6 fun _ s7 z7 => ?_
    obtain ⟨x, H7, I7, r7, y7, st7, n7⟩ := z7
    have I8 := I7.pinned (fpo I7 n7) (T.obj _ _ st7)
    refine thnF (pg.run _ s7 _ H7 x u _ I8 r7 (step x H7 y7)) fun _ s8 z8 => ?_
    obtain ⟨σ8, H8, I9, hw8, q8⟩ := z8
    refine thnF (pt.run _ s8 σ8 H8 _ I9 q8) fun c s9 z9 => ?_
    obtain ⟨H9, I10, q9⟩ := z9
    -- the turn's end
    have fin : ∀ {s' : Shared} {H' : Hp}, Inv (X.blk s3 H3 scope ce fp) ([] ++ pinsAt fp s7.heap) σ8 H' s' → Go H' → ∃ m, m < n ∧ ∃ i H5, W i m H5 ∧ tn i s'.heap ∧ (∀ b ∈ fp, H5 b = none) ∧ Inv (X.blk s3 H3 scope ce fp) [] (wipe σ (own.map (·.2))) H5 s' := by
      intro s' H' I' nx
      obtain ⟨m', lt, w'⟩ := dec H' nx
      have pin : ∀ b ∈ fp, ∀ o, s7.heap.get? b = some o → s'.heap.get? b = some o ∧ H' b = none := by
        intro b mb o e
        have z := I'.pin (b, o) (List.mem_append_right _ (List.mem_append_right _ (mem_pinsAt mb e)))
        exact ⟨z.1, z.2.1⟩
      refine ⟨m', lt, i + 1, H', w', T.keep _ _ _ st7 (fun b mb o e => (pin b mb o e).1), fun b mb => ?_, (I'.unpinned (pins := [])).weak ?_ (fun j v e => ?_)⟩
      · obtain ⟨o, e, _⟩ := T.obj _ _ st7 b mb
        exact (pin b mb o e).2
      · rw [← hw8, wipe_length]
      · rw [← hw8] at e
        exact (wipe_some e).1
    cases c with
    | false => exact fin I10 q9
    | true =>
      refine thnF (pk.run _ s9 σ8 H9 _ I10 q9) fun z s10 z10 => ?_
      obtain ⟨yk, H10, I11, r10, q10⟩ := z10
      refine thnF (pv.run _ s10 σ8 H10 _ I11 q10) fun z2 s11 z11 => ?_
      obtain ⟨yv, H11, I12, r11, kvs, k, b, rfl, hb, hD, room, nx⟩ := z11
      obtain rfl : z = Value.ref b := r10
      exact put_tup (X := X.blk s3 H3 scope ce fp) hu I12 hD hb room r11 fun s12 I13 => fin I13 nx
end
/-- over anything that is walked: Pv by the turn and the heap -/
theorem dcT_it {J : It} {n : Nat} {G : Hp → Prop} {Y : Nat → Hp → V → Hp → Prop} (w : Walk J n G Y) {D : Addr} {g : TG} {tt : TT} {tk tv : TE} {sl : List Nat} {σ : L2.St} {H0 : Hp} {Qd : Hp → Prop} (Pv : Nat → Hp → Prop) (h0 : Pv 0 (upd H0 D (.dT []))) (hG : ∀ i H, i ≤ n → Pv i H → G H)
    (hs : ∀ i x H H', i < n → Pv i H → Y i H x H' → turnT D g tt tk tv sl σ (Pv (i + 1)) x H') (hd : ∀ H, Pv n H → Qd H) : turnsT J D g tt tk tv sl σ H0 Qd := by
  refine ⟨fun i m H => m = n - i ∧ i ≤ n ∧ Pv i H, ⟨n, rfl, Nat.zero_le _, h0⟩, fun i m H z => ?_⟩
  obtain ⟨rfl, le, p⟩ := z
  rcases Nat.lt_or_ge i n with lt | ge
  · exact .inr ⟨w.goes i H lt (hG i H le p), Pv (i + 1), fun H' p' => ⟨n - (i + 1), by omega, rfl, lt, p'⟩, fun x H' y => hs i x H H' lt p (w.yields i H x H' lt (hG i H le p) y)⟩
  · obtain rfl : i = n := by omega
    exact .inl ⟨w.stops H (hG _ H le p), hd H p⟩
/-! ### the same rules where the context is a block's: K told from outside -/
section
variable {X : Cx} {K : PySem.W.Frag}
theorem sl_tupK (hK : X.K = K) : SlR X (rSlA K) := hK ▸ sl_tupA
theorem call_tupleK (hK : X.K = K) : CallR X (.type "tuple") (fun vs H Q => ∃ a xs, vs = [.ref a] ∧ ((SqL K H a xs ∧ ∀ b, H b = none → Q (.ref b) (upd H b (.tup xs))) ∨ (SqT K H a xs ∧ Q (.ref a) H))) := by
  subst hK
  exact call_tuple_of
theorem call_lenK (hK : X.K = K) : CallR X (.builtin "len") (fun vs H Q => ∃ a xs, vs = [.ref a] ∧ (SqL K H a xs ∨ SqT K H a xs) ∧ Q (.int xs.length) H) := by
  subst hK
  exact call_len_seq
theorem pe_joinK {o e : Expr} {to te : TE} {apos pos : Pos} (hK : X.K = K) (ho : PE X o to) (he : PE X e te) (hs : starEach [e] X.env = [(false, eval e X.env)] := by rfl) (hb : attributeBase o "join" X.env (eval o X.env) = eval o X.env := by rfl) (hl : (apos.endLine == pos.line) = true := by rfl) :
    PE X (.Call (.Attribute o "join" apos) [e] [] pos) (tM1 (fun x vs H Q => ∃ z a, ∃ ks : List Str, x = .str z ∧ vs = [.ref a] ∧ (SqL K H a (ks.map V.str) ∨ SqT K H a (ks.map V.str)) ∧ (ks.map (·.length)).sum + ks.length * z.length ≤ 16777216 ∧ Q (.str (Txt.join z ks)) H) to te) := by
  subst hK
  exact pe_join ho he hs hb hl
end
end Zd
set_option maxHeartbeats 4000000
/-! My own rules: sets of tuples of texts and numbers; sorted of such a set. -/
namespace Zt
open PySem PySem.Spec PyProof.Rows L2
abbrev TKey := List L2.Key
/-- numbers and texts -/
def Small (v : Value) : Prop := (∃ i t, v = .int i t) ∨ ∃ x t, v = .str x t
theorem small_class {n : Nat} {v : Value} (h : Small v) : ofAClassStatement n v = pure false := by
  rcases h with ⟨i, t, rfl⟩ | ⟨x, t, rfl⟩ <;> cases n <;> rfl
theorem small_hash {n : Nat} {v : Value} (h : Small v) : ∃ c, hashByValue n v = pure c := by
  rcases h with ⟨i, t, rfl⟩ | ⟨x, t, rfl⟩
  · exact ⟨true, by cases n <;> rfl⟩
  · exact ⟨false, by cases n <;> rfl⟩
/-! ### the way of a search, by its steps -/
def stp (m : Nat) (h : Int) (c : Nat) : SetTable.Probe := nth m (runAt m (SetTable.bits h % (m + 1)) (SetTable.bits h)) c
theorem stp_j (m : Nat) (h : Int) (c : Nat) : (stp m h c).j = way m h c := rfl
theorem stp_add (m : Nat) (h : Int) (c q : Nat) : nth m (stp m h c) q = stp m h (c + q) := (nth_add m c _ q).symm
theorem nth_dummy (m : Nat) : ∀ (n : Nat) (p : SetTable.Probe), p.dummy = none → (nth m p n).dummy = none
  | 0, _, h => h
  | n + 1, p, h => nth_dummy m n (adv m p) (by unfold adv; split <;> exact h)
theorem stp_dummy (m : Nat) (h : Int) (c : Nat) : (stp m h c).dummy = none := nth_dummy m c _ rfl
/-- from the c-th step on: the first of this hash ahead of the first free slot, or that slot -/
theorem probe_at {t : SetTable} (ri : Ris t.place.toList) (dm : t.dummies = #[]) {g : Nat → Int} {h : Int} {c K : Nat} (le : c ≤ K) (bd : K < 10 * SetTable.turns t.mask) (free : way t.mask h K ∉ t.place.toList) (full : ∀ d, d < K → way t.mask h d ∈ t.place.toList) :
    (∃ d i, c ≤ d ∧ d < K ∧ t.place.toList[i]? = some (way t.mask h d) ∧ g i = h ∧ (∀ d' i', c ≤ d' → d' < d → t.place.toList[i']? = some (way t.mask h d') → g i' ≠ h) ∧ t.probe g h (stp t.mask h c) = some (.candidate (way t.mask h d) i (stp t.mask h (d + 1)))) ∨
    ((∀ d' i', c ≤ d' → d' < K → t.place.toList[i']? = some (way t.mask h d') → g i' ≠ h) ∧ t.probe g h (stp t.mask h c) = some (.empty (way t.mask h K) none)) := by
  have ej : ∀ q, (nth t.mask (stp t.mask h c) q).j = way t.mask h (c + q) := fun q => by
    rw [stp_add]
    rfl
  have z := go_spec t ri dm g h (10 * SetTable.turns t.mask) (K - c) (stp t.mask h c) (stp_dummy _ _ _) (by omega) (fun q hq => (ej q).symm ▸ full (c + q) (by omega)) (by
    rw [ej, show c + (K - c) = K by omega]
    exact free)
  rcases z with ⟨q, i, lt, hi, hh, ne, e⟩ | ⟨ne, e⟩
  · refine .inl ⟨c + q, i, by omega, by omega, by rw [← ej]; exact hi, hh, fun d' i' h1 h2 h3 => ?_, ?_⟩
    · refine ne (d' - c) i' (by omega) ?_
      rw [ej, show c + (d' - c) = d' by omega]
      exact h3
    · rw [show c + q + 1 = c + (q + 1) by omega, ← stp_add, ← ej]
      exact e
  · refine .inr ⟨fun d' i' h1 h2 h3 => ?_, ?_⟩
    · refine ne (d' - c) i' (by omega) ?_
      rw [ej, show c + (d' - c) = d' by omega]
      exact h3
    · have y := ej (K - c)
      rw [show c + (K - c) = K by omega] at y
      rw [← y]
      exact e
/-! ### the keys -/
abbrev hK (P : Program) (w : World) (k : TKey) : Int := tupleKeyHash (mixKind P w) k
abbrev At (P : Program) (w : World) (h : Heap) (k : TKey) (b : Addr) : Prop := IsTupleKey (mixKind P w) h k b
section
variable {P : Program} {w : World} {A : Around} {E : Value → Shared → Prop} {s : Shared}
theorem small_all {k : TKey} {vs : List Value} (h : ItemsAre (mixKind P w) k vs) : ∀ v ∈ vs, Small v := by
  induction h with
  | nil => exact fun v m => (List.not_mem_nil m).elim
  | cons a _ ih =>
    intro v m
    rcases List.mem_cons.mp m with rfl | m
    · rcases keyIs_shape a with ⟨i, t, _, e⟩ | ⟨x, t, _, e⟩
      · exact .inl ⟨i, t, e⟩
      · exact .inr ⟨x, t, e⟩
    · exact ih v m
theorem at_old {h h' : Heap} {k : TKey} {b : Addr} (z : At P w h k b) (old : ∀ c o, h.get? c = some o → h'.get? c = some o) : At P w h' k b := by
  obtain ⟨o, its, n, e, r⟩ := z
  exact ⟨o, its, n, old _ _ e, r⟩
theorem at_but {h h' : Heap} {k : TKey} {a b : Addr} {o : Obj} {es : Array (Int × Value)} {ep : Nat} {t : SetTable} (z : At P w h k b) (ha : h.get? a = some o) (hd : o.data = .set es ep t) (sb : Heap.SameBut a h h') : At P w h' k b := by
  obtain ⟨o', its, n, e, hc, hs, hi⟩ := z
  refine ⟨o', its, n, (sb.2 b fun q => ?_).trans e, hc, hs, hi⟩
  rw [q, ha] at e
  cases e
  rw [hd] at hs
  cases hs
/-- a tuple of such is of no class statement -/
theorem at_class {k : TKey} {b : Addr} {Q : Bool → Shared → Prop} (z : At P w s.heap k b) (q : Q false s) : wpAny (model P w) A (ofAClassStatement 8 (.ref b)) Q E s := by
  have ty := z.typeIs
  obtain ⟨o, its, n, e, _, hd, hi⟩ := z
  have sm := small_all hi
  unfold ofAClassStatement
  refine wpAny_bind (wpAny_typeOf ty ?_)
  have tt : ("tuple" == "tuple") = true := rfl
  simp only [tt, ite_true, pure_bind, Bool.not_true, Bool.false_eq_true, ite_false]
  refine wpAny_bind (wpAny_seqItems e hd (wpAny_bind ?_))
  show wpAny _ _ (forIn its _ _) _ _ _
  rw [← Array.forIn_toList]
  refine wpAny_forIn_list _ (fun rest r s' => s' = s ∧ r.1 = none ∧ ∀ v ∈ rest, Small v) _ (fun v rest r s' inv => ?_) (fun r s' inv => ?_) _ _ ⟨rfl, rfl, sm⟩
  · obtain ⟨rfl, h1, h2⟩ := inv
    rw [small_class (h2 v List.mem_cons_self)]
    simp only [pure_bind, Bool.false_eq_true, ite_false]
    exact wpAny_pure ⟨rfl, rfl, fun u m => h2 u (List.mem_cons_of_mem _ m)⟩
  · obtain ⟨rfl, h1, _⟩ := inv
    obtain ⟨r1, r2⟩ := r
    cases h1
    exact wpAny_pure q
theorem at_hash {k : TKey} {b : Addr} {Q : Bool → Shared → Prop} (z : At P w s.heap k b) (q : ∀ c, Q c s) : wpAny (model P w) A (hashByValue 8 (.ref b)) Q E s := by
  have ty := z.typeIs
  obtain ⟨o, its, n, e, _, hd, hi⟩ := z
  have sm := small_all hi
  unfold hashByValue
  refine wpAny_bind (wpAny_specialOf ty F.slot_tuple_hash.lookup ?_)
  show wpAny _ _ (seqItems? (.ref b) >>= _) _ _ _
  refine wpAny_bind (wpAny_seqItems e hd (wpAny_bind ?_))
  show wpAny _ _ (forIn its _ _) _ _ _
  rw [← Array.forIn_toList]
  refine wpAny_forIn_list _ (fun rest r s' => s' = s ∧ r.1 = none ∧ ∀ v ∈ rest, Small v) _ (fun v rest r s' inv => ?_) (fun r s' inv => ?_) _ _ ⟨rfl, rfl, sm⟩
  · obtain ⟨rfl, h1, h2⟩ := inv
    obtain ⟨c, ec⟩ := small_hash (n := 7) (h2 v List.mem_cons_self)
    rw [ec]
    cases c with
    | true =>
      simp only [pure_bind, Bool.not_true, Bool.false_eq_true, ite_false]
      exact wpAny_pure ⟨rfl, rfl, fun u m => h2 u (List.mem_cons_of_mem _ m)⟩
    | false =>
      simp only [pure_bind, Bool.not_false, ite_true]
      exact wpAny_pure (wpAny_pure (q false))
  · obtain ⟨rfl, h1, _⟩ := inv
    obtain ⟨r1, r2⟩ := r
    cases h1
    exact wpAny_pure (q true)
/-- a search among such shows nothing -/
theorem at_seen {k : TKey} {b : Addr} {ys : List Value} {Q : Bool → Shared → Prop} (z : At P w s.heap k b) (all : ∀ y ∈ ys, ∃ l c, y = Value.ref c ∧ At P w s.heap l c) (q : Q false s) : wpAny (model P w) A (searchCouldBeSeen (.ref b) ys) Q E s := by
  unfold searchCouldBeSeen
  refine wpAny_bind (wpAny_forIn_list _ (fun rest r s' => s' = s ∧ r.1 = none ∧ ∀ y ∈ rest, ∃ l c, y = Value.ref c ∧ At P w s.heap l c) _ (fun v rest r s' inv => ?_) (fun r s' inv => ?_) _ _ ⟨rfl, rfl, all⟩)
  · obtain ⟨rfl, h1, h2⟩ := inv
    obtain ⟨l, c, rfl, zc⟩ := h2 v List.mem_cons_self
    have nx : ∀ y ∈ rest, ∃ l c, y = Value.ref c ∧ At P w s'.heap l c := fun u m => h2 u (List.mem_cons_of_mem _ m)
    dsimp only
    by_cases same : (b == c || (carriedByValue (.ref b) && carriedByValue (.ref c))) = true
    · exact wp_if_pos same (wpAny_pure ⟨rfl, rfl, nx⟩)
    · refine wp_if_neg same (wpAny_bind (wpAny_eqIsQuiet_tuple z ?_))
      simp only [Bool.not_true, Bool.false_eq_true, ite_false]
      refine wpAny_bind (wpAny_eqIsQuiet_tuple zc ?_)
      simp only [Bool.not_true, Bool.false_eq_true, ite_false]
      refine wpAny_bind (at_class z ?_)
      simp only [Bool.false_eq_true, ite_false]
      refine wpAny_bind (at_class zc ?_)
      simp only [Bool.false_eq_true, ite_false]
      exact wpAny_pure ⟨rfl, rfl, nx⟩
  · obtain ⟨rfl, h1, _⟩ := inv
    obtain ⟨r1, r2⟩ := r
    cases h1
    exact wpAny_pure q
end
end Zt
set_option maxHeartbeats 4000000
namespace Zt
open PySem PySem.Spec PyProof.Rows L2
/-! ### the set of tuples -/
abbrev Rw : Type := Addr × TKey
def rowT (P : Program) (w : World) (p : Rw) : Int × Value := (hK P w p.2, .ref p.1)
structure TSet (P : Program) (w : World) (h : Heap) (a : Addr) (L : List Rw) (es : Array (Int × Value)) (ep : Nat) (t : SetTable) : Prop where
  obj : ∃ o, h.get? a = some o ∧ o.ExactSet ∧ o.data = .set es ep t
  row : es.toList = L.map (rowT P w)
  tab : TabOk t (L.map fun p => hK P w p.2)
  one : (L.map Prod.snd).Nodup
  key : ∀ p ∈ L, At P w h p.2 p.1
  led : w.params.followText "set-order" = true ∨ t.led = true
  low : L.length * 5 < t.mask * 3
  few : L.length < 64
section
variable {P : Program} {w : World} {A : Around} {E : Value → Shared → Prop} {s : Shared} {a : Addr} {L : List Rw} {es : Array (Int × Value)} {ep : Nat} {t : SetTable}
theorem rows_size (e : es.toList = L.map (rowT P w)) : es.size = L.length := by
  rw [← Array.length_toList, e, List.length_map]
theorem rows_at (e : es.toList = L.map (rowT P w)) {i : Nat} : es[i]? = (L[i]?).map (rowT P w) := by
  rw [← Array.getElem?_toList, e, List.getElem?_map]
theorem fits_of (hs : t.place.size = es.size) (dm : t.dummies = #[]) (le : es.size ≤ t.mask) : t.fits es.size = true := by
  unfold SetTable.fits SetTable.fill
  rw [dm, Bool.and_eq_true]
  refine ⟨beq_iff_eq.mpr hs, decide_eq_true ?_⟩
  show t.place.size + 0 ≤ t.mask
  omega
theorem TSet.pl (R : TSet P w s.heap a L es ep t) : t.place.size = es.size := by
  rw [rows_size R.row, R.tab.sz, List.length_map]
theorem TSet.fit (R : TSet P w s.heap a L es ep t) : t.fits es.size = true := by
  refine fits_of R.pl R.tab.dm ?_
  have := R.low
  rw [rows_size R.row]
  omega
theorem not_gave (m : MaskOk t.mask) : ¬ t.gaveWay = true := by
  unfold SetTable.gaveWay
  rw [mask_odd m]
  decide
abbrev hAt (es : Array (Int × Value)) : Nat → Int := fun i => (es[i]?.map (·.1)).getD 0
theorem hAt_of (e : es.toList = L.map (rowT P w)) {i : Nat} {p : Rw} (h : L[i]? = some p) : hAt es i = hK P w p.2 := by
  show (es[i]?.map (·.1)).getD 0 = _
  rw [rows_at e, h]
  rfl
/-- the search for k, to be added: it is there, or where it goes -/
theorem look (R : TSet P w s.heap a L es ep t) {x : Addr} {k : TKey} (hx : At P w s.heap k x) (hu : A.units < cLine) {K : Nat} (bd : K < 10 * SetTable.turns t.mask) (free : way t.mask (hK P w k) K ∉ t.place.toList) (full : ∀ d, d < K → way t.mask (hK P w k) d ∈ t.place.toList)
    {Q : SetFound → Shared → Prop} (yes : k ∈ L.map Prod.snd → Q (.there none) s) (no : k ∉ L.map Prod.snd → Q (.free (way t.mask (hK P w k) K) false) s) :
    ∀ (f c : Nat) (from_ : Option SetTable.Probe), c ≤ K → K - c < f → from_.getD (t.probeStart (hK P w k)) = stp t.mask (hK P w k) c →
      (∀ (i : Nat) (p : Rw), L[i]? = some p → p.2 = k → ∃ d, c ≤ d ∧ d < K ∧ t.place.toList[i]? = some (way t.mask (hK P w k) d)) → wpAny (model P w) A (setSearchFrom a (.ref x) (hK P w k) true f from_) Q E s := by
  obtain ⟨o, ho, hex, hd⟩ := R.obj
  intro f
  induction f with
  | zero => exact fun c _ _ lt => absurd lt (Nat.not_lt_zero _)
  | succ f ih =>
    intro c from_ le lt eq ahead
    rw [setSearchFrom_succ]
    refine wpAny_bind (wpAny_setState_of ho hd R.fit ?_)
    dsimp only
    refine wp_if_neg (not_gave R.tab.mok) ?_
    rw [eq]
    -- the entries' hashes
    have live : ∀ {i d : Nat}, t.place.toList[i]? = some (way t.mask (hK P w k) d) → ∃ p, L[i]? = some p := fun {i d} hi => by
      have h1 := (List.getElem?_eq_some_iff.mp hi).1
      rw [Array.length_toList, R.pl, rows_size R.row] at h1
      exact ⟨_, List.getElem?_eq_getElem h1⟩
    rcases probe_at (g := hAt es) R.tab.ris R.tab.dm le bd free full with ⟨d, i, cd, dK, hi, hh, skip, pr⟩ | ⟨skip, pr⟩
    · -- one of this hash
      rw [pr]
      dsimp only
      obtain ⟨p, hp⟩ := live hi
      have mp := List.mem_of_getElem? hp
      have ent : es[i]? = some (rowT P w p) := by
        rw [rows_at R.row, hp]
        rfl
      have behind : wpAny (model P w) A (searchRest a (.ref x) (hK P w k) true f es t (way t.mask (hK P w k) d) i (stp t.mask (hK P w k) (d + 1))) Q E s := by
        unfold searchRest
        rw [ent]
        show wpAny _ _ (holding [Value.ref p.1] (eqBool (.ref p.1) (.ref x)) >>= _) _ _ _
        refine wpAny_bind (wpAny_holding (wpAny_eqBool_tuple hu (R.key p mp) hx ?_))
        refine wpAny_bind (wpAny_setState_of ho hd R.fit ?_)
        dsimp only
        by_cases e : p.2 = k
        · refine wp_if_pos (by simp [e]) ?_
          exact wpAny_pure (yes (e ▸ List.mem_map.mpr ⟨p, mp, rfl⟩))
        · refine wp_if_neg (by simp [e]) ?_
          have sl := slot_live R.tab.ris hi
          rw [sameMem]
          dsimp only
          simp only [if_true, sl, ent]
          refine wpAny_bind (wpAny_isSame_ref_self (wpAny_bind (wpAny_pure ?_)))
          simp only [if_true]
          refine wp_if_neg (by simp [e]) ?_
          refine ih (d + 1) _ (by omega) (by omega) rfl fun i0 p0 h0 k0 => ?_
          obtain ⟨d0, c1, c2, c3⟩ := ahead i0 p0 h0 k0
          refine ⟨d0, ?_, c2, c3⟩
          rcases Nat.lt_trichotomy d0 d with z | z | z
          · exact absurd ((hAt_of R.row h0).trans (by rw [k0])) (skip d0 i0 c1 z c3)
          · subst z
            have sl2 := slot_live R.tab.ris c3
            rw [sl] at sl2
            injection sl2 with sl2
            subst sl2
            rw [hp] at h0
            cases h0
            exact absurd k0 e
          · omega
      by_cases ld : t.led = true
      · exact wp_if_neg (by simp [ld]) behind
      · refine wp_if_pos (by simp [ld]) (wpAny_bind (at_seen hx (fun y my => ?_) (wp_if_neg (by decide) behind)))
        obtain ⟨e0, m0, rfl⟩ := List.mem_map.mp my
        have m1 : e0 ∈ es.toList := by
          have z : e0 ∈ es ∧ e0.1 = hK P w k := by simpa using m0
          simpa using z.1
        rw [R.row] at m1
        obtain ⟨p0, mp0, rfl⟩ := List.mem_map.mp m1
        exact ⟨p0.2, p0.1, rfl, R.key p0 mp0⟩
    · -- none
      rw [pr]
      dsimp only
      refine wpAny_pure (no fun m => ?_)
      obtain ⟨p, mp, e⟩ := List.mem_map.mp m
      obtain ⟨i, hi, ei⟩ := List.getElem_of_mem mp
      have h0 : L[i]? = some p := by rw [List.getElem?_eq_getElem hi, ei]
      obtain ⟨d, c1, c2, c3⟩ := ahead i p h0 e
      exact skip d i c1 c2 c3 ((hAt_of R.row h0).trans (by rw [e]))
theorem look_all (R : TSet P w s.heap a L es ep t) {x : Addr} {k : TKey} (hx : At P w s.heap k x) (hu : A.units < cLine) {Q : SetFound → Shared → Prop} (yes : k ∈ L.map Prod.snd → Q (.there none) s)
    (no : ∀ K, k ∉ L.map Prod.snd → way t.mask (hK P w k) K ∉ t.place.toList → (∀ d, d < K → way t.mask (hK P w k) d ∈ t.place.toList) → Q (.free (way t.mask (hK P w k) K) false) s) : wpAny (model P w) A (setSearch a (.ref x) (hK P w k) true) Q E s := by
  have low := R.low
  obtain ⟨K, bd, free, full⟩ := R.tab.first (by rw [List.length_map]; omega) (hK P w k)
  have small : 10 * SetTable.turns t.mask ≤ 2000 := by
    unfold SetTable.turns
    rcases R.tab.mok with e | e | e <;> omega
  unfold setSearch
  refine look R hx hu bd free full yes (fun n => no K n free full) 100000 0 none (Nat.zero_le _) (by omega) rfl fun i p hp e => ?_
  have h1 := (List.getElem?_eq_some_iff.mp hp).1
  have h2 : i < t.place.toList.length := by
    rw [Array.length_toList, R.pl, rows_size R.row]
    exact h1
  have h3 := List.getElem?_eq_getElem h2
  obtain ⟨d, lt, ed⟩ := R.tab.before (i := i) free (by rw [List.getElem?_map, hp, ← e]; rfl) h3
  exact ⟨d, Nat.zero_le _, lt, by rw [h3, ed]⟩
/-! ### laid anew -/
theorem pick_map {α β : Type} (L : List α) (f : α → β) (g : Nat → β) (hg : ∀ (i : Nat) (p : α), L[i]? = some p → f p = g i) : ∀ l : List Nat, (∀ i ∈ l, i < L.length) → (l.filterMap fun i => L[i]?).map f = l.map g
  | [], _ => rfl
  | i :: l, h => by
    have hi := List.getElem?_eq_getElem (h i List.mem_cons_self)
    rw [List.filterMap_cons_some hi, List.map_cons, List.map_cons, hg i _ hi, pick_map L f g hg l fun j m => h j (List.mem_cons_of_mem _ m)]
theorem pick_all {α : Type} : ∀ L : List α, ((List.range L.length).filterMap fun i => L[i]?) = L
  | [] => rfl
  | x :: L => by
    have z := pick_all L
    rw [List.length_cons, List.range_succ_eq_map]
    have e : ∀ l : List Nat, (l.map Nat.succ).filterMap (fun i => (x :: L)[i]?) = l.filterMap fun i => L[i]? := fun l => by
      rw [List.filterMap_map]
      rfl
    show x :: ((List.range L.length).map Nat.succ).filterMap (fun i => (x :: L)[i]?) = x :: L
    rw [e, z]
theorem relay (ho : ∃ o, s.heap.get? a = some o ∧ o.ExactSet ∧ o.data = .set es ep t) (row : es.toList = L.map (rowT P w)) (pl : t.place.size = es.size) (dm : t.dummies = #[]) (le : es.size ≤ t.mask) (one : (L.map Prod.snd).Nodup) (key : ∀ p ∈ L, At P w s.heap p.2 p.1)
    (ld : w.params.followText "set-order" = true ∨ t.led = true) (few : L.length < 64) {wanted M : Nat} (hw : SetTable.sizeAbove wanted = M + 1) (hM : MaskOk M) (low : L.length * 5 < M * 3) {Q : Unit → Shared → Prop}
    (q : ∀ h2 L2 es2 ep2 t2, Heap.SameBut a s.heap h2 → TSet P w h2 a L2 es2 ep2 t2 → L2.Perm L → Q () { s with heap := h2 }) : wpAny (model P w) A (setRelay a wanted) Q E s := by
  obtain ⟨o, e1, e2, e3⟩ := ho
  have sz := rows_size row
  have big : M ≤ 127 := by rcases hM with e | e | e <;> omega
  obtain ⟨t2, ord, er, pm, T, em, el, _, ed⟩ := relaid_ok t (hs := es.map (·.1)) (wanted := wanted) (by rw [hw]; rfl) hM (by rw [Array.size_map, sz]; omega)
  rw [Array.size_map, sz] at pm
  have inl : ∀ i ∈ ord.toList, i < L.length := fun i m => List.mem_range.mp (pm.mem_iff.mp m)
  have hL : ((ord.toList.filterMap fun i => L[i]?).map fun p => hK P w p.2) = ord.toList.map fun i => (es.map (·.1)).getD i 0 := by
    refine pick_map L _ _ (fun i p hp => ?_) _ inl
    have z : (es.map (·.1))[i]? = some (hK P w p.2) := by
      rw [Array.getElem?_map, rows_at row, hp]
      rfl
    simp [Array.getD_eq_getD_getElem?, z]
  have hR : (ord.filterMap (es[·]?)).toList = (ord.toList.filterMap fun i => L[i]?).map (rowT P w) := by
    have z : (ord.filterMap (es[·]?)).toList = ord.toList.filterMap (es[·]?) := by simp
    rw [z, List.map_filterMap]
    refine congrArg (fun g => ord.toList.filterMap g) (funext fun i => ?_)
    exact rows_at row
  have hP : (ord.toList.filterMap fun i => L[i]?).Perm L := by
    have z := pm.filterMap fun i => L[i]?
    rwa [pick_all] at z
  rw [← hL] at T
  have sz2 := rows_size hR
  rw [hP.length_eq, ← sz] at sz2
  rw [setRelay_eq]
  refine wpAny_bind (wpAny_setState_of e1 e3 (fits_of pl dm le) ?_)
  dsimp only
  refine wp_if_neg (by rw [hw, sizeLine_eq]; omega) ?_
  rw [er]
  dsimp only
  refine wpAny_bind (wp_if_neg (by rw [sz2]; simp) (wpAny_pure ?_))
  dsimp only
  refine wpAny_storeSet_of e1 e3 ?_ (by rw [sz2, sz, sizeLine_eq]; omega)
  have sb : Heap.SameBut a s.heap (s.heap.update a (Obj.putSet (ord.filterMap (es[·]?)) t2)) := Heap.SameBut.update ..
  refine q _ _ _ (ep + 1) t2 sb ⟨⟨_, store_at e1 e3, ⟨e2.1, e2.2.1, e2.2.2⟩, rfl⟩, hR, T, (hP.map Prod.snd).nodup_iff.mpr one, fun p mp => at_but (key p (hP.mem_iff.mp mp)) e1 e3 sb, by rw [el]; exact ld, ?_, by rw [hP.length_eq]; exact few⟩ hP
  rw [hP.length_eq, em]
  exact low
/-! ### added -/
theorem put_perm2 {α : Type} (L : List α) (p : Nat) (x : α) : (L.take p ++ x :: L.drop p).Perm (x :: L) := by
  have z : (L.take p ++ x :: L.drop p).Perm (x :: (L.take p ++ L.drop p)) := List.perm_middle
  rwa [List.take_append_drop] at z
theorem tab_plain {t : SetTable} {hs : List Int} (T : TabOk t hs) (c : Bool) : TabOk (if c = true then t else { t with plain := false }) hs := by
  cases c with
  | true => exact T
  | false => exact ⟨T.ris, T.dm, T.sz, T.mok, T.bd, T.reach⟩
theorem add (R : TSet P w s.heap a L es ep t) {x : Addr} {k : TKey} (hx : At P w s.heap k x) (hu : A.units < cLine) (few : L.length + 1 < 64) {Q : Bool → Shared → Prop}
    (q : ∀ b h2 L2 es2 ep2 t2, Heap.SameBut a s.heap h2 → TSet P w h2 a L2 es2 ep2 t2 → ((k ∈ L.map Prod.snd ∧ L2 = L) ∨ (k ∉ L.map Prod.snd ∧ L2.Perm ((x, k) :: L))) → Q b { s with heap := h2 }) : wpAny (model P w) A (setAddHashed a (.ref x) (hK P w k)) Q E s := by
  obtain ⟨o, e1, e2, e3⟩ := R.obj
  have sz := rows_size R.row
  have low := R.low
  unfold setAddHashed
  refine wpAny_holding ?_
  show wpAny _ _ (setAddHashedIn a (.ref x) (hK P w k) (99999 + 1)) _ _ _
  rw [setAddHashedIn_succ]
  refine wpAny_bind (wpAny_setState_of e1 e3 R.fit ?_)
  dsimp only
  refine wp_if_neg (by simp [byScan, Value.scannable]) ?_
  refine wpAny_bind (look_all R hx hu (fun m => wpAny_pure (q false s.heap L es ep t (Heap.SameBut.refl a s.heap) R (.inl ⟨m, rfl⟩))) fun K n free full => ?_)
  dsimp only
  refine wpAny_bind (wpAny_setState_of e1 e3 R.fit ?_)
  dsimp only
  obtain ⟨p1, p2, p3, p4, p5, _, _, _, p9⟩ := R.tab.put free full
  generalize ept : t.put (way t.mask (hK P w k) K) = pt at p1 p3 p4 p5 p9 ⊢
  obtain ⟨t1, at1⟩ := pt
  dsimp only at p1 p3 p4 p5 p9 ⊢
  subst p1
  have hes : (SetTable.insertAt es (SetTable.below t.place (way t.mask (hK P w k) K)) (hK P w k, Value.ref x)).toList = (L.take (SetTable.below t.place (way t.mask (hK P w k) K)) ++ (x, k) :: L.drop (SetTable.below t.place (way t.mask (hK P w k) K))).map (rowT P w) := by
    rw [SetTable.toList_insertAt, R.row, List.map_append, List.map_cons, List.map_take, List.map_drop]
    rfl
  have hhs : (L.take (SetTable.below t.place (way t.mask (hK P w k) K)) ++ (x, k) :: L.drop (SetTable.below t.place (way t.mask (hK P w k) K))).map (fun p => hK P w p.2) = (L.map fun p => hK P w p.2).take (SetTable.below t.place (way t.mask (hK P w k) K)) ++ hK P w k :: (L.map fun p => hK P w p.2).drop (SetTable.below t.place (way t.mask (hK P w k) K)) := by
    rw [List.map_append, List.map_cons, List.map_take, List.map_drop]
  rw [← hhs] at p3
  have pm := put_perm2 L (SetTable.below t.place (way t.mask (hK P w k) K)) (x, k)
  generalize SetTable.insertAt es (SetTable.below t.place (way t.mask (hK P w k) K)) (hK P w k, Value.ref x) = es1 at hes ⊢
  generalize L.take (SetTable.below t.place (way t.mask (hK P w k) K)) ++ (x, k) :: L.drop (SetTable.below t.place (way t.mask (hK P w k) K)) = L1 at hes p3 pm
  have len : L1.length = L.length + 1 := pm.length_eq
  have sz1 := rows_size hes
  have one1 : (L1.map Prod.snd).Nodup := (pm.map Prod.snd).nodup_iff.mpr (List.nodup_cons.mpr ⟨n, R.one⟩)
  -- behind the question whether the hash is the value's
  have go : ∀ c : Bool, wpAny (model P w) A (do
      storeSet a es1 (if c = true then t1 else { t1 with plain := false })
      if !false && (if c = true then t1 else { t1 with plain := false }).tooFull then setRelay a (SetTable.grown (es.size + 1))
      return true) Q E s := by
    intro c
    have T1 := tab_plain p3 c
    have m1 : (if c = true then t1 else { t1 with plain := false }).mask = t.mask := by cases c <;> exact p4
    have l1 : (if c = true then t1 else { t1 with plain := false }).led = t.led := by cases c <;> exact p5
    have f1 : (if c = true then t1 else { t1 with plain := false }).fill = L.length + 1 := by
      rw [List.length_map] at p9
      cases c <;> exact p9
    generalize (if c = true then t1 else { t1 with plain := false }) = t2 at T1 m1 l1 f1 ⊢
    refine wpAny_bind (wpAny_storeSet_of e1 e3 ?_ (by rw [sz1, len, sizeLine_eq]; omega))
    have sb : Heap.SameBut a s.heap (s.heap.update a (Obj.putSet es1 t2)) := Heap.SameBut.update ..
    have g1 := store_at (es' := es1) (t' := t2) e1 e3
    generalize s.heap.update a (Obj.putSet es1 t2) = h1 at sb g1 ⊢
    have key1 : ∀ p ∈ L1, At P w h1 p.2 p.1 := fun p mp => by
      rcases List.mem_cons.mp (pm.mem_iff.mp mp) with rfl | mp
      · exact at_but hx e1 e3 sb
      · exact at_but (R.key p mp) e1 e3 sb
    have ld1 : w.params.followText "set-order" = true ∨ t2.led = true := by rw [l1]; exact R.led
    have obj1 : ∃ o', h1.get? a = some o' ∧ o'.ExactSet ∧ o'.data = .set es1 (ep + 1) t2 := ⟨_, g1, ⟨e2.1, e2.2.1, e2.2.2⟩, rfl⟩
    have sz2 : t2.place.size = es1.size := by rw [sz1, T1.sz, List.length_map]
    by_cases full2 : t2.tooFull = true
    · have lim : (L.length + 1) * 5 ≥ t2.mask * 3 := by
        have z := full2
        unfold SetTable.tooFull at z
        rw [decide_eq_true_eq, f1] at z
        exact z
      rw [m1] at lim
      have two : (t.mask = 7 ∧ L.length = 4) ∨ (t.mask = 31 ∧ L.length = 18) := by
        rcases R.tab.mok with e | e | e
        · exact .inl ⟨e, by omega⟩
        · exact .inr ⟨e, by omega⟩
        · omega
      have step : ∀ M, SetTable.sizeAbove (SetTable.grown (es.size + 1)) = M + 1 → MaskOk M → (L.length + 1) * 5 < M * 3 → wpAny (model P w) A (do
          if !false && t2.tooFull then setRelay a (SetTable.grown (es.size + 1))
          return true) Q E { s with heap := h1 } := fun M hM1 hM2 hM3 => by
        have rl : wpAny (model P w) A (setRelay a (SetTable.grown (es.size + 1))) (fun _ s' => wpAny (model P w) A (pure true) Q E s') E { s with heap := h1 } := by
          refine relay (s := { s with heap := h1 }) obj1 hes sz2 T1.dm (by rw [sz1, len, m1]; rcases two with ⟨z1, z2⟩ | ⟨z1, z2⟩ <;> omega) one1 key1 ld1 (by rw [len]; exact few) hM1 hM2 (by rw [len]; exact hM3) fun h2 L2 es2 ep2 t3 sb2 R2 pm2 => ?_
          exact wpAny_pure (q true h2 L2 es2 ep2 t3 (sb.trans sb2) R2 (.inr ⟨n, pm2.trans pm⟩))
        first
          | exact wpAny_bind (wp_if_pos (by simp [full2]) rl)
          | exact wp_if_pos (by simp [full2]) (wpAny_bind rl)
      rcases two with ⟨_, z⟩ | ⟨_, z⟩
      · exact step 31 (by rw [sz, z]; exact size_20) (.inr (.inl rfl)) (by omega)
      · exact step 127 (by rw [sz, z]; exact size_76) (.inr (.inr rfl)) (by omega)
    · have fin : wpAny (model P w) A (pure true) Q E { s with heap := h1 } := by
        refine wpAny_pure (q true h1 L1 es1 (ep + 1) t2 sb ⟨obj1, hes, T1, one1, key1, ld1, ?_, by rw [len]; exact few⟩ (.inr ⟨n, pm⟩))
        have z := full2
        unfold SetTable.tooFull at z
        rw [decide_eq_true_eq, f1] at z
        rw [len]
        omega
      first
        | exact wp_if_neg (by simp [full2]) fin
        | exact wpAny_bind (wp_if_neg (by simp [full2]) (wpAny_pure fin))
  by_cases pln : t1.plain = true
  · first
      | exact wpAny_bind (wp_if_pos pln (at_hash hx fun c => go c))
      | exact wp_if_pos pln (wpAny_bind (at_hash hx fun c => go c))
  · first
      | exact wpAny_bind (wp_if_neg pln (wpAny_pure (go true)))
      | exact wp_if_neg pln (wpAny_bind (wpAny_pure (go true)))
      | exact wp_if_neg pln (go true)
end
end Zt
set_option maxHeartbeats 4000000
namespace Zt
open PySem PySem.Spec PyProof.Rows L2
/-! ### set(xs) -/
/-- an empty set as it is laid -/
abbrev newS (w : World) : Obj := { cls := .type "set", dict := none, data := .set #[] 0 (.fresh 0 0 (!w.params.followText "set-order")) }
/-- what the first i of ks leave in a set -/
structure Has (ks : List Rw) (i : Nat) (L : List Rw) : Prop where
  sub : ∀ p ∈ L, p ∈ ks.take i
  all : ∀ p ∈ ks.take i, p.2 ∈ L.map Prod.snd
  len : L.length ≤ i
theorem Has.start (ks : List Rw) : Has ks 0 [] := ⟨fun p m => (List.not_mem_nil m).elim, fun p m => (List.not_mem_nil (by rwa [List.take_zero] at m)).elim, Nat.le_refl _⟩
theorem Has.next {ks L L2 : List Rw} {i : Nat} {x : Rw} (g : Has ks i L) (h : ks[i]? = some x) (z : (x.2 ∈ L.map Prod.snd ∧ L2 = L) ∨ (x.2 ∉ L.map Prod.snd ∧ L2.Perm (x :: L))) : Has ks (i + 1) L2 := by
  have tk : ks.take (i + 1) = ks.take i ++ [x] := by
    rw [List.take_add_one, h]
    rfl
  rcases z with ⟨m, rfl⟩ | ⟨_, pm⟩
  · refine ⟨fun p mp => ?_, fun p mp => ?_, Nat.le_succ_of_le g.len⟩
    · rw [tk]
      exact List.mem_append_left _ (g.sub p mp)
    · rw [tk] at mp
      rcases List.mem_append.mp mp with q | q
      · exact g.all p q
      · rw [List.mem_singleton.mp q]
        exact m
  · refine ⟨fun p mp => ?_, fun p mp => ?_, ?_⟩
    · rw [tk]
      rcases List.mem_cons.mp (pm.mem_iff.mp mp) with rfl | q
      · exact List.mem_append_right _ (List.mem_singleton.mpr rfl)
      · exact List.mem_append_left _ (g.sub p q)
    · rw [(pm.map Prod.snd).mem_iff, List.map_cons]
      rw [tk] at mp
      rcases List.mem_append.mp mp with q | q
      · exact List.mem_cons_of_mem _ (g.all p q)
      · rw [List.mem_singleton.mp q]
        exact List.mem_cons_self
    · have := g.len
      rw [pm.length_eq, List.length_cons]
      omega
section
variable {P : Program} {w : World} {A : Around} {E : Value → Shared → Prop} {s : Shared}
theorem TSet.old {h h' : Heap} {a : Addr} {L : List Rw} {es : Array (Int × Value)} {ep : Nat} {t : SetTable} (R : TSet P w h a L es ep t) (ha : ∀ o, h.get? a = some o → h'.get? a = some o) (key : ∀ p ∈ L, At P w h' p.2 p.1) : TSet P w h' a L es ep t := by
  obtain ⟨o, e, r⟩ := R.obj
  exact ⟨⟨o, ha o e, r⟩, R.row, R.tab, R.one, key, R.led, R.low, R.few⟩
theorem TSet.new {h : Heap} {a : Addr} (e : h.get? a = some (newS w)) : TSet P w h a [] #[] 0 (.fresh 0 0 (!w.params.followText "set-order")) := by
  refine ⟨⟨_, e, ⟨rfl, rfl, rfl⟩, rfl⟩, rfl, ⟨.nil, rfl, rfl, .inl rfl, fun x m => ?_, fun i h j z => ?_⟩, .nil, fun p m => (List.not_mem_nil m).elim, ?_, ?_, ?_⟩
  · cases m
  · cases z
  · cases z : w.params.followText "set-order" with
    | true => exact .inl rfl
    | false => exact .inr rfl
  · show 0 * 5 < 7 * 3
    decide
  · show 0 < 64
    decide
/-- the loop that puts them in -/
theorem fill_loop {I : Addr} {fp wr : List Addr} {G : Array GenState → Array GenState → Prop} {n : Nat} {Pv : Nat → Value → Prop} {St : Nat → Shared → Prop} {R : Result → Shared → Prop} (W : WalksS P w A.in1 I fp wr G n Pv St) (S : Addr) (nf : S ∉ fp) (ks : List Rw) (en : n = ks.length) (few : ks.length < 64)
    (val : ∀ i v, Pv i v → ∃ p, ks[i]? = some p ∧ v = .ref p.1) (h0 : Heap) (key : ∀ p ∈ ks, At P w h0 p.2 p.1) (nS : h0.get? S = none) (nw : ∀ b ∈ wr, h0.get? b = none) (hu : A.in1.units < cLine) :
    ∀ (m i : Nat) (s : Shared), n - i = m → i ≤ n → St i s → (∀ b o, h0.get? b = some o → s.heap.get? b = some o) → (∃ L es ep t, TSet P w s.heap S L es ep t ∧ Has ks i L) →
      (∀ s' L es ep t, Moved (S :: wr) G s s' → TSet P w s'.heap S L es ep t → Has ks n L → (∀ b o, h0.get? b = some o → s'.heap.get? b = some o) → R (.ok (.ret .none)) s') →
      codeAny (model P w) A (.builtin "set.update.loop" ⟨[.ref S, .ref I], []⟩) R s := by
  have nSw : S ∉ wr := fun z => nf (W.sub _ z)
  have up : ∀ b ∈ wr, b ∈ S :: wr := fun b mb => List.mem_cons_of_mem _ mb
  have carry : ∀ {s1 s2 : Shared}, Moved wr G s1 s2 → (∀ b o, h0.get? b = some o → s1.heap.get? b = some o) → ∀ b o, h0.get? b = some o → s2.heap.get? b = some o := by
    intro s1 s2 mv old b o e
    refine mv.heap b o (fun z => ?_) (old b o e)
    rw [nw b z] at e
    cases e
  have mem : ∀ {i : Nat} {L : List Rw}, Has ks i L → ∀ p ∈ L, p ∈ ks := fun g p mp => List.mem_of_mem_take (g.sub p mp)
  intro m
  induction m with
  | zero =>
    intro i s em le st old set fin
    obtain ⟨L, es, ep, t, hS, g⟩ := set
    obtain rfl : i = n := by omega
    refine codeAny_builtin F.entry_set_update_loop ?_
    rw [Around.under_plainId F.plain_set_update_loop _]
    show wpAny _ A.in1 (pyNext (.ref I) >>= _) _ _ _
    refine wpAny_bind (W.done s _ _ st fun s2 mv => ?_)
    have old2 := carry mv old
    exact wpAny_pure (fin s2 L es ep t (mv.mono up) (hS.old (fun o e => mv.heap S o nSw e) fun p mp => at_old (key p (mem g p mp)) old2) g old2)
  | succ m ih =>
    intro i s em le st old set fin
    obtain ⟨L, es, ep, t, hS, g⟩ := set
    refine codeAny_builtin F.entry_set_update_loop ?_
    rw [Around.under_plainId F.plain_set_update_loop _]
    show wpAny _ A.in1 (pyNext (.ref I) >>= _) _ _ _
    refine wpAny_bind (W.item i s _ _ (by omega) st fun v s2 hv st2 mv => ?_)
    obtain ⟨p, hp, rfl⟩ := val i v hv
    have old2 := carry mv old
    have hS2 : TSet P w s2.heap S L es ep t := hS.old (fun o e => mv.heap S o nSw e) fun q mq => at_old (key q (mem g q mq)) old2
    have hx : At P w s2.heap p.2 p.1 := at_old (key p (List.mem_of_getElem? hp)) old2
    show wpAny _ A.in1 (holding [Value.ref p.1] (setAdd S (.ref p.1)) >>= _) _ _ _
    refine wpAny_bind (wpAny_holding ?_)
    unfold setAdd
    refine wpAny_holding (wpAny_bind (wpAny_pyHash_tuple hu hx ?_))
    have gl := g.len
    refine add (s := { s2 with toks := s2.toks + (p.2.length + 1) }) hS2 hx hu (by omega) fun b h3 L3 es3 ep3 t3 sb hS3 way3 => ?_
    have old3 : ∀ b o, h0.get? b = some o → h3.get? b = some o := fun b o e => by
      refine (sb.2 b fun z => ?_).trans (old2 b o e)
      rw [z, nS] at e
      cases e
    refine wpAny_pure ⟨plainId_quiet F.plain_set_update_loop _, ih (i + 1) _ (by omega) (by omega) (W.frame _ s2 _ _ st2 (Nat.le_add_right _ _) fun b mb o e => ?_) old3 ⟨L3, es3, ep3, t3, hS3, g.next hp way3⟩ fun s4 L4 es4 ep4 t4 mv4 hS4 g4 old4 => ?_⟩
    · exact (sb.2 b fun z => nf (z ▸ mb)).trans e
    · refine fin s4 L4 es4 ep4 t4 (Moved.trans W.gtrans ((mv.mono up).then_heap (Nat.le_add_right _ _) fun b o nb e => ?_) mv4) hS4 g4 old4
      exact (sb.2 b fun z => nb (z ▸ List.mem_cons_self)).trans e
set_option maxHeartbeats 3200000 in
theorem call_set_tt {l : Addr} {its : Array Value} (ks : List Rw) {Q : Value → Shared → Prop} (hh : A.handled = none) (hl : s.heap.IsList l its) (hit : its.toList = ks.map fun p => Value.ref p.1) (key : ∀ p ∈ ks, At P w s.heap p.2 p.1) (few : ks.length < 64) (hu : A.units + 3 < cLine)
    (q : ∀ h' tk L es ep t, TSet P w h' s.heap.objs.size L es ep t → Has ks ks.length L → (∀ b o, s.heap.get? b = some o → h'.get? b = some o) → Q (.ref s.heap.objs.size) { s with heap := h', toks := tk }) : wpAny (model P w) A (call (.type "set") [.ref l]) Q E s := by
  have isz : its.size = ks.length := by rw [← Array.length_toList, hit, List.length_map]
  -- the class is called
  obtain ⟨_, _, hmro⟩ := F.called_set.mro
  have hmade := F.called_set.made
  have hsub := F.called_set.sub
  refine wpAny_call (codeAny_of_tree ?_)
  show wpAny _ _ (callAny (.type "set") _) _ _ _
  refine wpAny_pure ⟨Code.quiet_builtin _ (by decide +kernel), codeAny_builtin F.entry_type_call ?_⟩
  rw [Around.under_plain (weight_type_call_type "set" [.ref l] []) rfl]
  have hnt := F.called_set.notType
  have hcc := F.called_set.canCreate
  have htc := F.typeCall_set_1 (.ref l)
  repeat (any_goals (first | assumption | wp_step))
  refine codeAny_mono (code_set_led1 (.ref l) (E := E) (Q₁ := fun v s1 => v = .ref s.heap.objs.size ∧ s1 = { s with heap := s.heap.push (newS w) }) ⟨rfl, rfl⟩) fun r s1 hr => ?_
  match r, hr with
  | .error e, hr => exact hr
  | .ok .next, hr => exact hr.elim
  | .ok .brk, hr => exact hr.elim
  | .ok .cont, hr => exact hr.elim
  | .ok (.ret v), hr =>
    obtain ⟨rfl, rfl⟩ := hr
    have gS : (s.heap.push (newS w)).get? s.heap.objs.size = some (newS w) := Heap.get?_push_size _ rfl
    have tS : Shared.TypeIs { s with heap := s.heap.push (newS w) } (.ref s.heap.objs.size) "set" := ⟨_, gS, rfl⟩
    have hli := F.called_set.init.lookup
    have hbi := F.called_set.init.bind (.ref s.heap.objs.size)
    repeat (any_goals (first | assumption | wp_step))
    refine codeAny_mono (codeAny_call_builtin (R := wants (fun r s2 => r = .none ∧ ∃ h' tk L es ep t, s2 = { s with heap := h', toks := tk } ∧ TSet P w h' s.heap.objs.size L es ep t ∧ Has ks ks.length L ∧ (∀ b o, s.heap.get? b = some o → h'.get? b = some o)) E) F.called_set.init.plain F.entry_set_init (check_set_init_1 tS ?_)) fun r2 s2 hr2 => ?_
    · -- __init__
      obtain ⟨ol, hol, hcl, nl, hdl⟩ := hl
      obtain ⟨ocls, odict, odata, oslots⟩ := ol
      simp only at hcl hdl
      subst hcl hdl
      have lS : l < s.heap.objs.size := Heap.lt_size hol
      have gl : (s.heap.push (newS w)).get? l = some { cls := .type "list", dict := odict, data := .seq its nl, slots := oslots } := Heap.get?_push_of_some _ hol
      have isl : (s.heap.push (newS w)).IsList l its := ⟨_, gl, rfl, nl, rfl⟩
      have sub1 := F.sub_list_set
      have sub2 := F.sub_list_frozenset
      have ned : (Value.type "list" == Value.type "dict") = false := by decide
      unfold Builtin.«set.__init__» noKeywords Builtin.Frozenset.updateFrom
      generalize eIt : pyIter = itf
      wp_walk
      subst eIt
      refine wpAny_pyIter_list isl ?_
      refine wpAny_bind (wpAny_runValue ?_)
      have sz1 : (s.heap.push (newS w)).objs.size = s.heap.objs.size + 1 := Heap.size_push ..
      have h3 : A.in1.in1.in1.handled = none := by simp [hh]
      have off : ∀ b, s.heap.objs.size ≤ b → s.heap.get? b = none := fun b le => by
        cases e : s.heap.get? b with
        | none => rfl
        | some o => exact absurd (Heap.lt_size e) (Nat.not_lt.mpr le)
      have nI : l ≠ (s.heap.push (newS w)).objs.size := by
        rw [sz1]
        exact Nat.ne_of_lt (Nat.lt_succ_of_lt lS)
      refine fill_loop ((Walks.list h3 _ l nI its).toS) s.heap.objs.size ?nf ks isz few (fun i v hv => ?val) s.heap key (off _ (Nat.le_refl _)) (fun b mb => ?nw) hu (its.size - 0) 0 _ (by omega) (Nat.zero_le _) ⟨⟨_, Heap.get?_push_size _ rfl, rfl, rfl⟩, (isl.push _)⟩ (fun b o e => Heap.get?_push_of_some _ (Heap.get?_push_of_some _ e)) ?set ?fin
      case nf =>
        rw [sz1]
        simp only [List.mem_cons, List.not_mem_nil, or_false, not_or]
        exact ⟨Nat.ne_of_lt (Nat.lt_succ_self _), (Nat.ne_of_lt lS).symm⟩
      case val =>
        have z : its.toList[i]? = some v := by rw [Array.getElem?_toList]; exact hv
        rw [hit, List.getElem?_map] at z
        obtain ⟨p, hp, e⟩ := Option.map_eq_some_iff.mp z
        exact ⟨p, hp, e.symm⟩
      case nw =>
        refine off b ?_
        rw [List.mem_singleton.mp mb, sz1]
        omega
      case set => exact ⟨[], #[], 0, _, TSet.new (Heap.get?_push_of_some _ gS), Has.start ks⟩
      case fin =>
        intro s4 L es ep t mv hS g old
        obtain ⟨h4, g4, d4, t4, o4⟩ := s4
        obtain rfl : g4 = s.gens := mv.gens
        obtain rfl : d4 = s.drawn := mv.drawn
        obtain rfl : o4 = s.os := mv.os
        rw [isz] at g
        exact wpAny_pure (wpAny_pure ⟨rfl, h4, t4, L, es, ep, t, rfl, hS, g, old⟩)
    · match r2, hr2 with
      | .error e, hr2 => exact hr2
      | .ok .next, hr2 => exact hr2.elim
      | .ok .brk, hr2 => exact hr2.elim
      | .ok .cont, hr2 => exact hr2.elim
      | .ok (.ret v2), hr2 =>
        obtain ⟨rfl, h4, t4, L, es, ep, t, rfl, hS, g, old⟩ := hr2
        repeat (any_goals (first | assumption | wp_step))
        exact q _ _ _ _ _ _ hS g old
end
end Zt
set_option maxHeartbeats 4000000
namespace Zt
open PySem PySem.Spec PyProof.Rows L2 Zs
/-! ### sorted of such a set, its tuples of texts alone -/
section
variable {P : Program} {w : World} {A : Around} {E : Value → Shared → Prop} {s : Shared}
theorem strs_of : ∀ {k : List Str} {vs : List Value}, ItemsAre (mixKind P w) (k.map Sum.inr) vs → StrsAre vs k
  | [], _, h => by
    cases h
    exact .nil
  | x :: k, _, h => by
    cases h with
    | cons a r =>
      have a : keyIs (Sum.inr x) _ = true := a
      rcases keyIs_shape a with ⟨i, t, e, _⟩ | ⟨y, t, e, e2⟩
      · cases e
      · cases e
        rw [e2]
        exact .cons _ _ (strs_of r)
theorem isTS_of {h : Heap} {k : List Str} {b : Addr} (z : At P w h (k.map Sum.inr) b) : IsTS h (.ref b) k := by
  obtain ⟨o, its, n, e, hc, hd, hi⟩ := z
  exact ⟨b, o, its, n, rfl, e, hc, hd, strs_of hi⟩
def txK : L2.Key → Option Str
  | .inr x => some x
  | _ => none
theorem tx_back : ∀ k : List Str, (k.map (Sum.inr : Str → L2.Key)).filterMap txK = k
  | [] => rfl
  | x :: k => by
    show x :: (k.map (Sum.inr : Str → L2.Key)).filterMap txK = x :: k
    rw [tx_back k]
/-- the texts of the key that stands at an address, by a list of rows -/
def kAt (L : List Rw) : Value → List Str
  | .ref b => (match L.find? fun p => p.1 == b with
    | some p => p.2.filterMap txK
    | none => [])
  | _ => []
theorem kAt_of {h : Heap} {L : List Rw} (key : ∀ p ∈ L, At P w h p.2 p.1) {b : Addr} {k : List Str} (m : ((b, k.map Sum.inr) : Rw) ∈ L) : kAt L (.ref b) = k := by
  show (match L.find? fun p => p.1 == b with
    | some p => p.2.filterMap txK
    | none => []) = k
  cases e : L.find? fun p => p.1 == b with
  | none => exact absurd (List.find?_eq_none.mp e _ m) (by simp)
  | some p =>
    have e1 : p.1 = b := by simpa using List.find?_some e
    have z := (e1 ▸ key p (List.mem_of_find?_eq_some e)).inj (key _ m)
    show p.2.filterMap txK = k
    rw [z]
    exact tx_back k
theorem sorted_tt {a : Addr} {L : List Rw} {es : Array (Int × Value)} {ep : Nat} {t : SetTable} {Q : Value → Shared → Prop} (R : TSet P w s.heap a L es ep t) (hh : A.handled = none) (tx : ∀ p ∈ L, ∃ k : List Str, p.2 = k.map Sum.inr ∧ k ≠ [])
    (q : ∀ s' d out n, (∀ b o, s.heap.get? b = some o → s'.heap.get? b = some o) → s'.gens = s.gens → s'.os = s.os → s.heap.objs.size ≤ d → s'.heap.get? d = some (seqObj "list" out n) → out.toList.Perm (L.map fun p => Value.ref p.1) → SrtO.Srtd (fun v u => lexT (kAt L v) (kAt L u)) out.toList → Q (.ref d) s') :
    wpAny (model P w) A (call (.builtin "sorted") [.ref a]) Q E s := by
  obtain ⟨o, e1, e2, e3⟩ := R.obj
  have few := R.few
  have sz := rows_size R.row
  refine Calls.call_function_entry kind_sorted plain_sorted entry_sorted (args_sorted1 _) ?_
  unfold Builtin.«sorted»
  refine wpAny_bind (m := checkCount "sorted" 1 1 _) (wpAny_pure ?_)
  refine wpAny_bind (collect_set (A := A.in1) hh ⟨o, e1, e2.1, e3⟩ R.fit (by unfold scanBound; omega) R.tab.ris R.led fun s1 vs old1 le1 g1 o1 pm => ?_)
  have er : es.toList.map (·.2) = L.map fun p => Value.ref p.1 := by
    rw [R.row, List.map_map]
    rfl
  rw [er] at pm
  have lv : vs.length < 64 := by rw [pm.length_eq, List.length_map]; exact few
  refine wpAny_bind (wpAny_newList ?_ (by rw [sizeLine_eq]; omega))
  have gl : (s1.heap.push (seqObj "list" vs.toArray 0)).get? s1.heap.objs.size = some (seqObj "list" vs.toArray 0) := Heap.get?_push_size _ rfl
  have old2 : ∀ b o, s.heap.get? b = some o → (s1.heap.push (seqObj "list" vs.toArray 0)).get? b = some o := fun b o e => Heap.get?_push_of_some _ (old1 b o e)
  have all : ∀ v ∈ vs, IsTS (s1.heap.push (seqObj "list" vs.toArray 0)) v (kAt L v) ∧ kAt L v ≠ [] := fun v mv => by
    obtain ⟨p, mp, rfl⟩ := List.mem_map.mp (pm.mem_iff.mp mv)
    obtain ⟨k, ek, ne⟩ := tx p mp
    have mp2 : ((p.1, k.map Sum.inr) : Rw) ∈ L := by rw [← ek]; exact mp
    rw [kAt_of R.key mp2]
    exact ⟨isTS_of (P := P) (w := w) (at_old (R.key _ mp2) old2), ne⟩
  refine wpAny_bind (wpAny_holding (wpAny_call_entry slot_list_sort ⟨_, gl, rfl⟩ entry_list_sort (SrtO.list_sort_ord (s := { s1 with heap := s1.heap.push (seqObj "list" vs.toArray 0) }) (lexT_swo (kAt L)) gl (by rw [sizeLine_eq]; omega) (fun h2 => ?_) fun out hs hb => ⟨_, rfl, ?_⟩) (args_list_sort _)))
  · refine ts_sortable (s := { s1 with heap := s1.heap.push (seqObj "list" vs.toArray 0) }) (by omega) all fun o' e => ?_
    have z : some o' = some (seqObj "list" vs.toArray 0) := e.symm.trans gl
    cases z
    exact fun c => absurd (Value.type.inj c) (by decide)
  · obtain ⟨n, hn⟩ := sortedHeap_at (vs := vs) (out := out.toArray) gl
    refine wpAny_pure ⟨_, rfl, q _ s1.heap.objs.size out.toArray n (fun b o' e => ?_) g1 o1 le1 hn (by simpa using hb.perm.trans pm) (by simpa using hs)⟩
    have z := old1 b o' e
    have lt := Heap.lt_size z
    show (sortedHeap (s1.heap.push (seqObj "list" vs.toArray 0)) s1.heap.objs.size vs out.toArray).get? b = some o'
    rw [sortedHeap_old (Nat.ne_of_lt lt) (by rw [size_push']; exact Nat.lt_succ_of_lt lt)]
    exact Heap.get?_push_of_some _ z
end
/-! ### over the layer -/
/-- the set, without its tuples -/
def TSetO (P : Program) (w : World) (a : Addr) (L : List Rw) : HO := .ext fun h => ∃ (es : Array (Int × Value)) (ep : Nat) (t : SetTable), (∃ o, h.get? a = some o ∧ o.ExactSet ∧ o.data = .set es ep t) ∧ es.toList = L.map (rowT P w) ∧ TabOk t (L.map fun p => hK P w p.2) ∧ (L.map Prod.snd).Nodup ∧ (w.params.followText "set-order" = true ∨ t.led = true) ∧ L.length * 5 < t.mask * 3 ∧ L.length < 64
theorem tsetO_new {P : Program} {w : World} {H : Hp} {h : Heap} {a : Addr} {L : List Rw} {es : Array (Int × Value)} {ep : Nat} {t : SetTable} (R : TSet P w h a L es ep t) : ObjOk P w H h a (TSetO P w a L) := by
  obtain ⟨o, e, r⟩ := R.obj
  refine ⟨⟨es, ep, t, ⟨o, e, r⟩, R.row, R.tab, R.one, R.led, R.low, R.few⟩, ⟨o, e⟩, fun h1 h2 z kp => ?_⟩
  obtain ⟨es1, ep1, t1, ⟨o1, e1, r1⟩, z2⟩ := z
  exact ⟨es1, ep1, t1, ⟨o1, kp _ e1, r1⟩, z2⟩
theorem items_mix {P : Program} {w : World} : ∀ {k : TKey} {us : List Value}, Vals (k.map kV) us → ItemsAre (mixKind P w) k us := fun {k us} v => items_are v
section
variable {X : Cx}
theorem at_inv {pins : List (Addr × Obj)} {σ : L2.St} {H : Hp} {s : Shared} {b : Addr} {k : TKey} (I : Inv X pins σ H s) (h : H b = some (.tup (k.map kV))) : At X.prog X.w s.heap k b := key_of I.hok h
theorem vals_refs : ∀ ks : List Rw, Vals (ks.map fun p => V.ref p.1) (ks.map fun p => Value.ref p.1)
  | [] => .nil
  | p :: ks => .cons rfl (vals_refs ks)
theorem refs_vals : ∀ {ks : List Rw} {us : List Value}, Vals (ks.map fun p => V.ref p.1) us → us = ks.map fun p => Value.ref p.1
  | [], _, .nil => rfl
  | p :: ks, _, .cons r t => by
    cases r
    rw [refs_vals t]
    rfl
/-- set(l), l a list of tuples of numbers and texts -/
def rSetTT (P : Program) (w : World) (K : PySem.W.Frag) : List V → Hp → VK → Prop := fun vs H Q => ∃ (l : Addr) (ks : List Rw), vs = [.ref l] ∧ SqL K H l (ks.map fun p => V.ref p.1) ∧ (∀ p ∈ ks, H p.1 = some (.tup (p.2.map kV))) ∧ ks.length < 64 ∧
  ∀ a L, H a = none → (∀ p ∈ L, p ∈ ks) → (∀ p ∈ ks, p.2 ∈ L.map Prod.snd) → Q (.ref a) (upd H a (TSetO P w a L))
theorem cr_setTT (hc : X.calm = true) (hu : X.A.units + 64 < cLine) : CallR X (.type "set") (rSetTT X.prog X.w X.K) := by
  intro pins s σ H vs us Q I r h
  obtain ⟨l, ks, rfl, hl, key, few, q⟩ := h
  obtain ⟨its, rv, pl, _⟩ := I.list hl
  obtain ⟨u, rfl, ru⟩ := vals1 r
  obtain rfl : u = Value.ref l := ru
  have nn : H s.heap.objs.size = none := I.hok.fresh (Nat.le_refl _)
  refine call_set_tt (P := X.prog) (w := X.w) ks (I.ok.hd hc) pl.isList (by simpa using refs_vals rv) (fun p mp => at_inv I (key p mp)) few (by omega) fun h' tk L es ep t R g old => ?_
  exact ⟨.ref s.heap.objs.size, upd H s.heap.objs.size (TSetO X.prog X.w s.heap.objs.size L), I.laid (t' := tk) old (Nat.le_refl _) (tsetO_new R), rfl, q _ L nn (fun p mp => List.mem_of_mem_take (g.sub p mp)) fun p mp => g.all p (by rw [List.take_length]; exact mp)⟩
/-- sorted of such a set, the tuples of texts alone -/
def rSortTT (P : Program) (w : World) : List V → Hp → VK → Prop := fun vs H Q => ∃ (a : Addr) (L : List (Addr × List Str)), vs = [.ref a] ∧ H a = some (TSetO P w a (L.map fun p => (p.1, p.2.map Sum.inr))) ∧ (∀ p ∈ L, H p.1 = some (.tup (p.2.map V.str)) ∧ p.2 ≠ []) ∧
  ∀ (L2 : List (Addr × List Str)) (d : Addr), L2.Perm L → (L2.map Prod.snd).Nodup → (L2.map Prod.snd).Pairwise (fun k l => lexT l k = false) → L2.length < 64 → H d = none → Q (.ref d) (upd H d (.lst (L2.map fun p => V.ref p.1)))
theorem cr_sortTT (hc : X.calm = true) : CallR X (.builtin "sorted") (rSortTT X.prog X.w) := by
  intro pins s σ H vs us Q I r h
  obtain ⟨a, L, rfl, ha, key, q⟩ := h
  obtain ⟨u, rfl, ru⟩ := vals1 r
  obtain rfl : u = Value.ref a := ru
  have keyM : ∀ p ∈ (L.map fun p => ((p.1, p.2.map Sum.inr) : Rw)), At X.prog X.w s.heap p.2 p.1 := fun p mp => by
    obtain ⟨p0, m0, rfl⟩ := List.mem_map.mp mp
    refine at_inv I ?_
    have z : (p0.2.map (Sum.inr : Str → L2.Key)).map kV = p0.2.map V.str := by
      rw [List.map_map]
      rfl
    show H p0.1 = _
    rw [z]
    exact (key p0 m0).1
  obtain ⟨es, ep, t, z1, z2, z3, z4, z5, z6, z7⟩ := (show ObjOk X.prog X.w H s.heap a (TSetO X.prog X.w a _) from I.hok a _ ha).1
  have R : TSet X.prog X.w s.heap a (L.map fun p => ((p.1, p.2.map Sum.inr) : Rw)) es ep t := ⟨z1, z2, z3, z4, keyM, z5, z6, z7⟩
  have one : ((L.map fun p => ((p.1, p.2.map Sum.inr) : Rw)).map Prod.snd).Nodup := z4
  have kat : ∀ p ∈ L, kAt (L.map fun p => ((p.1, p.2.map Sum.inr) : Rw)) (.ref p.1) = p.2 := fun p mp => kAt_of R.key (List.mem_map.mpr ⟨p, mp, rfl⟩)
  refine sorted_tt R (I.ok.hd hc) (fun p mp => ?_) fun s' d out n old g o le hd pm hs => ?_
  · obtain ⟨p0, m0, rfl⟩ := List.mem_map.mp mp
    exact ⟨p0.2, rfl, (key p0 m0).2⟩
  · rw [List.map_map] at pm
    -- the rows in the list's order
    have find : ∀ vs : List Value, (∀ v ∈ vs, ∃ p ∈ L, v = Value.ref p.1) → ∃ L2 : List (Addr × List Str), vs = L2.map (fun p => Value.ref p.1) ∧ ∀ p ∈ L2, p ∈ L := by
      intro vs
      induction vs with
      | nil => exact fun _ => ⟨[], rfl, fun _ m => (List.not_mem_nil m).elim⟩
      | cons v vs ih =>
        intro h
        obtain ⟨p, mp, rfl⟩ := h v List.mem_cons_self
        obtain ⟨L2, rfl, h2⟩ := ih fun u mu => h u (List.mem_cons_of_mem _ mu)
        refine ⟨p :: L2, rfl, fun r mr => ?_⟩
        rcases List.mem_cons.mp mr with rfl | mr
        · exact mp
        · exact h2 r mr
    obtain ⟨L2, e2, sub2⟩ := find out.toList fun v mv => by
      obtain ⟨p, mp, e⟩ := List.mem_map.mp (pm.mem_iff.mp mv)
      exact ⟨p, mp, e.symm⟩
    rw [e2] at pm hs
    have nodL : (L.map Prod.snd).Nodup := by
      rw [List.map_map] at one
      refine List.pairwise_map.mpr ((List.pairwise_map.mp one).imp fun {p r} ne e => ne ?_)
      show p.2.map Sum.inr = r.2.map Sum.inr
      rw [e]
    have nodup : ∀ {l : List (Addr × List Str)}, (l.map Prod.snd).Nodup → l.Nodup := fun {l} h => List.Pairwise.of_map Prod.snd (fun _ _ ne e => ne (by rw [e])) h
    have refs : ∀ p ∈ L, ∀ r ∈ L, p.1 = r.1 → p = r := fun p mp r mr e => by
      have z := kat p mp
      rw [e, kat r mr] at z
      exact Prod.ext e z.symm
    have nodR : (L.map fun p => Value.ref p.1).Nodup := by
      refine List.pairwise_map.mpr ((nodup nodL).imp_of_mem fun {p r} mp mr ne e => ?_)
      injection e with e
      exact ne (refs p mp r mr e)
    have pmR : (L2.map fun p => Value.ref p.1).Perm (L.map fun p => Value.ref p.1) := pm
    have nod2 : L2.Nodup := List.Pairwise.of_map (fun p : Addr × List Str => Value.ref p.1) (fun _ _ ne e => ne (by rw [e])) (pmR.nodup_iff.mpr nodR)
    have pL : L2.Perm L := by
      refine (List.perm_ext_iff_of_nodup nod2 (nodup nodL)).mpr fun p => ⟨sub2 p, fun mp => ?_⟩
      obtain ⟨r, mr, e⟩ := List.mem_map.mp (pmR.mem_iff.mpr (List.mem_map.mpr ⟨p, mp, rfl⟩))
      injection e with e
      rw [← refs r (sub2 r mr) p mp e]
      exact mr
    have few : L2.length < 64 := by
      have z := R.few
      rw [List.length_map] at z
      rw [pL.length_eq]
      exact z
    have srt : (L2.map Prod.snd).Pairwise fun k l => lexT l k = false := by
      refine List.pairwise_map.mpr ((List.pairwise_map.mp hs).imp_of_mem fun {p r} mp mr z => ?_)
      have z : lexT (kAt _ (.ref r.1)) (kAt _ (.ref p.1)) = false := z
      rwa [kat r (sub2 r mr), kat p (sub2 p mp)] at z
    have lenz : (L2.map fun p => V.ref p.1).length ≤ sizeLine := by
      rw [List.length_map, sizeLine_eq]
      omega
    have nn : H d = none := I.hok.fresh le
    have hv : Vals (L2.map fun p => V.ref p.1) out.toList := by
      rw [e2]
      have z : ∀ l : List (Addr × List Str), Vals (l.map fun p => V.ref p.1) (l.map fun p => Value.ref p.1) := fun l => by
        induction l with
        | nil => exact .nil
        | cons p l ih => exact .cons rfl ih
      exact z L2
    have J : Inv X pins σ (upd H d (.lst (L2.map fun p => V.ref p.1))) { s with heap := s'.heap, gens := s'.gens, drawn := s'.drawn, toks := s'.toks } :=
      I.call (ch := []) (Un.laid old le nn) (I.hok.laid old le ⟨lenz, out.toList, n, hv, hd⟩) (by rw [g]; exact I.bare) fun _ z => nomatch z
    have e : s' = { s with heap := s'.heap, gens := s'.gens, drawn := s'.drawn, toks := s'.toks } := by
      obtain ⟨_, _, _, _, _⟩ := s'
      cases o
      rfl
    rw [e]
    exact ⟨.ref d, _, J, rfl, q L2 d pL ((pL.map Prod.snd).nodup_iff.mpr nodL) srt few nn⟩
/-- the same, the program told from outside -/
theorem cr_setTK {P : Program} {w : World} {K : PySem.W.Frag} (hc : X.calm = true) (hu : X.A.units + 64 < cLine) (hP : X.prog = P) (hw : X.w = w) (hK : X.K = K) : CallR X (.type "set") (rSetTT P w K) := by
  subst hP hw hK
  exact cr_setTT hc hu
theorem cr_sortTK {P : Program} {w : World} (hc : X.calm = true) (hP : X.prog = P) (hw : X.w = w) : CallR X (.builtin "sorted") (rSortTT P w) := by
  subst hP hw
  exact cr_sortTT hc
end
end Zt
set_option maxHeartbeats 4000000
/-! The mathematics of masks, without a program: paths, their order, what begins with what, the least lists. -/
namespace K14
open PySem Zs
def beg (k l : List Str) : Bool := decide (k.take l.length = l)
def cov (ks : List (List Str)) (k : List Str) : Bool := ks.any fun l => beg k l
/-- before, in the order of the paths -/
def SrtP (ks : List (List Str)) : Prop := ks.Pairwise fun x y => lexT y x = false
/-- a path that begins with the last of those found is left out -/
def addF (found : List (List Str)) (k : List Str) : List (List Str) := match found.getLast? with
  | none => found ++ [k]
  | some l => if beg k l = true then found else found ++ [k]
def fewL (ks : List (List Str)) : List (List Str) := ks.foldl addF []
def okK (k : List Str) : Prop := k ≠ [] ∧ k.length ≤ 1000 ∧ ∀ x ∈ k, PyData.strOk x = true
theorem fewL_mem : ∀ (ks f : List (List Str)), ∀ k ∈ ks.foldl addF f, k ∈ f ∨ k ∈ ks
  | [], f, k, h => .inl h
  | x :: ks, f, k, h => by
    rcases fewL_mem ks (addF f x) k h with z | z
    · unfold addF at z
      split at z
      · rcases List.mem_append.mp z with y | y
        · exact .inl y
        · exact .inr (by rw [List.mem_singleton.mp y]; exact List.mem_cons_self)
      · split at z
        · exact .inl z
        · rcases List.mem_append.mp z with y | y
          · exact .inl y
          · exact .inr (by rw [List.mem_singleton.mp y]; exact List.mem_cons_self)
    · exact .inr (List.mem_cons_of_mem _ z)
theorem addF_len (f : List (List Str)) (k : List Str) : (addF f k).length ≤ f.length + 1 := by
  unfold addF
  split
  · rw [List.length_append, List.length_singleton]
    exact Nat.le_refl _
  · split
    · omega
    · rw [List.length_append, List.length_singleton]
      exact Nat.le_refl _
theorem few_len : ∀ (ks f : List (List Str)), (ks.foldl addF f).length ≤ f.length + ks.length
  | [], f => Nat.le_refl _
  | x :: ks, f => by
    have := few_len ks (addF f x)
    have := addF_len f x
    rw [List.foldl_cons, List.length_cons]
    omega
theorem srt_uniq : ∀ (l m : List (List Str)), SrtP l → SrtP m → l.Perm m → l = m
  | [], m, _, _, p => p.nil_eq
  | x :: l, [], _, _, p => by
    have := p.length_eq
    simp at this
  | x :: l, y :: m, h1, h2, p => by
    have e : x = y := by
      rcases List.mem_cons.mp (p.mem_iff.mp (List.mem_cons_self (a := x) (l := l))) with e | hx
      · exact e
      rcases List.mem_cons.mp (p.mem_iff.mpr (List.mem_cons_self (a := y) (l := m))) with e | hy
      · exact e.symm
      exact lexT_tot _ _ ((List.pairwise_cons.mp h2).1 x hx) ((List.pairwise_cons.mp h1).1 y hy)
    subst e
    rw [srt_uniq l m (List.pairwise_cons.mp h1).2 (List.pairwise_cons.mp h2).2 p.cons_inv]
theorem beg_self (k : List Str) : beg k k = true := decide_eq_true (List.take_of_length_le (Nat.le_refl _))
theorem cov_of {ks : List (List Str)} {k l : List Str} (h : l ∈ ks) (b : beg k l = true) : cov ks k = true := List.any_eq_true.mpr ⟨l, h, b⟩
theorem addF_sub {f : List (List Str)} {k l : List Str} (h : l ∈ f) : l ∈ addF f k := by
  unfold addF
  split
  · exact List.mem_append_left _ h
  · split
    · exact h
    · exact List.mem_append_left _ h
theorem fold_sub : ∀ (ks f : List (List Str)) {l : List Str}, l ∈ f → l ∈ ks.foldl addF f
  | [], _, _, h => h
  | x :: ks, f, _, h => fold_sub ks (addF f x) (addF_sub h)
theorem addF_cov (f : List (List Str)) (k : List Str) : ∃ l, l ∈ addF f k ∧ beg k l = true := by
  unfold addF
  split
  · exact ⟨k, List.mem_append_right _ List.mem_cons_self, beg_self k⟩
  · rename_i l hl
    split
    · rename_i hb
      exact ⟨l, List.mem_of_getLast? hl, hb⟩
    · exact ⟨k, List.mem_append_right _ List.mem_cons_self, beg_self k⟩
theorem few_cov : ∀ (ks f : List (List Str)), ∀ k ∈ ks, cov (ks.foldl addF f) k = true
  | [], _, _, h => by cases h
  | x :: ks, f, k, h => by
    rcases List.mem_cons.mp h with rfl | h
    · obtain ⟨l, hl, hb⟩ := addF_cov f k
      exact cov_of (fold_sub ks _ hl) hb
    · exact few_cov ks (addF f x) k h
theorem fewL_sub {ks : List (List Str)} {k : List Str} (h : k ∈ fewL ks) : k ∈ ks := by
  rcases fewL_mem ks [] k h with z | z
  · cases z
  · exact z
theorem beg_iff {k l : List Str} : beg k l = true ↔ ∃ r, k = l ++ r := by
  unfold beg
  rw [decide_eq_true_eq]
  constructor
  · intro h
    exact ⟨k.drop l.length, by rw [← h, List.length_take]; exact (by
      rw [h]
      have := List.take_append_drop l.length k
      rw [h] at this
      have e : min l.length k.length = l.length := by
        have := congrArg List.length h
        rw [List.length_take] at this
        exact this
      rw [e]
      exact this.symm)⟩
  · rintro ⟨r, rfl⟩
    rw [List.take_left]
theorem beg_trans {k l m : List Str} (h1 : beg k l = true) (h2 : beg l m = true) : beg k m = true := by
  obtain ⟨r, rfl⟩ := beg_iff.mp h1
  obtain ⟨q, rfl⟩ := beg_iff.mp h2
  exact beg_iff.mpr ⟨q ++ r, by rw [List.append_assoc]⟩
theorem beg_both {k l : List Str} (h1 : beg k l = true) (h2 : beg l k = true) : k = l := by
  obtain ⟨r, rfl⟩ := beg_iff.mp h1
  obtain ⟨q, e⟩ := beg_iff.mp h2
  have z := congrArg List.length e
  rw [List.length_append, List.length_append] at z
  have : r = [] := List.eq_nil_of_length_eq_zero (by omega)
  rw [this, List.append_nil]
/-- of two that begin a path, the shorter one begins the longer one -/
theorem beg_two {p k l : List Str} (h1 : beg p k = true) (h2 : beg p l = true) : beg k l = true ∨ beg l k = true := by
  have h1 : p.take k.length = k := of_decide_eq_true h1
  have h2 : p.take l.length = l := of_decide_eq_true h2
  unfold beg
  rw [decide_eq_true_eq, decide_eq_true_eq]
  rcases Nat.le_total l.length k.length with h | h
  · refine .inl ?_
    rw [← h1, List.take_take, Nat.min_eq_left h]
    exact h2
  · refine .inr ?_
    rw [← h2, List.take_take, Nat.min_eq_left h]
    exact h1
theorem lex_pre : ∀ (l r : List Str), lexT (l ++ r) l = false
  | [], [] => rfl
  | [], _ :: _ => rfl
  | x :: l, r => by
    show (if x = x then lexT (l ++ r) l else _) = false
    rw [if_pos rfl]
    exact lex_pre l r
/-- what stands between a path and one that begins with it begins with it, too -/
theorem beg_mid : ∀ (l m k : List Str), lexT m l = false → lexT k m = false → beg k l = true → beg m l = true
  | [], m, _, _, _, _ => beg_iff.mpr ⟨m, rfl⟩
  | x :: l, [], k, h, _, _ => by cases h
  | x :: l, y :: m, [], _, _, h => by
    obtain ⟨r, e⟩ := beg_iff.mp h
    cases e
  | x :: l, y :: m, z :: k, h1, h2, h3 => by
    obtain ⟨r, e⟩ := beg_iff.mp h3
    injection e with e1 e2
    subst e1
    have h3' : beg k l = true := beg_iff.mpr ⟨r, e2⟩
    unfold lexT at h1 h2
    by_cases g : y = z
    · subst g
      rw [if_pos rfl] at h1 h2
      obtain ⟨q, rfl⟩ := beg_iff.mp (beg_mid l m k h1 h2 h3')
      exact beg_iff.mpr ⟨q, rfl⟩
    · rw [if_neg g] at h1
      rw [if_neg (fun w => g w.symm)] at h2
      exact absurd (str_tot (of_decide_eq_false h1) g) (of_decide_eq_false h2)
/-- in order, and none begins with an earlier one -/
structure Canon (f : List (List Str)) : Prop where
  so : SrtP f
  an : f.Pairwise fun x y => beg y x = false
theorem fold_canon : ∀ (ks f : List (List Str)), SrtP (f ++ ks) → f.Pairwise (fun x y => beg y x = false) → Canon (ks.foldl addF f)
  | [], f, s, a => ⟨by rw [List.append_nil] at s; exact s, a⟩
  | k :: ks, f, s, a => by
    have s2 : SrtP ((f ++ [k]) ++ ks) := by rw [List.append_assoc]; exact s
    have s3 : SrtP (f ++ ks) := by
      refine List.Pairwise.sublist ?_ s
      exact List.Sublist.append_left (List.sublist_cons_self _ _) _
    have sp := List.pairwise_append.mp s
    show Canon (ks.foldl addF (addF f k))
    unfold addF
    split
    · rename_i hl
      have : f = [] := List.getLast?_eq_none_iff.mp hl
      subst this
      exact fold_canon ks _ s2 (List.pairwise_singleton _ _)
    · rename_i l hl
      split
      · exact fold_canon ks f s3 a
      · rename_i hb
        refine fold_canon ks _ s2 ?_
        obtain ⟨f', rfl⟩ : ∃ f', f = f' ++ [l] := by
          have hne : f ≠ [] := fun z => by rw [z] at hl; cases hl
          refine ⟨f.dropLast, ?_⟩
          rw [List.getLast?_eq_some_getLast hne] at hl
          have e := Option.some.inj hl
          rw [← e]
          exact (List.dropLast_concat_getLast hne).symm
        refine List.pairwise_append.mpr ⟨a, List.pairwise_singleton _ _, fun x hx y hy => ?_⟩
        obtain rfl := List.mem_singleton.mp hy
        have nb : beg y l = false := by
          cases z : beg y l with
          | false => rfl
          | true => exact absurd z hb
        rcases List.mem_append.mp hx with z | z
        · cases hbx : beg y x with
          | false => rfl
          | true =>
            have a1 := (List.pairwise_append.mp a).2.2 x z l List.mem_cons_self
            have s1 := (List.pairwise_append.mp sp.1).2.2 x z l List.mem_cons_self
            have s4 := sp.2.2 l (List.mem_append_right _ List.mem_cons_self) y List.mem_cons_self
            rw [beg_mid x l y s1 s4 hbx] at a1
            cases a1
        · rw [List.mem_singleton.mp z]
          exact nb
theorem few_canon {ks : List (List Str)} (s : SrtP ks) : Canon (fewL ks) := fold_canon ks [] s List.Pairwise.nil
theorem cov_iff {ks : List (List Str)} {p : List Str} : cov ks p = true ↔ ∃ l, l ∈ ks ∧ beg p l = true := by
  unfold cov
  rw [List.any_eq_true]
theorem few_same (ks : List (List Str)) (p : List Str) : cov (fewL ks) p = cov ks p := by
  rw [Bool.eq_iff_iff, cov_iff, cov_iff]
  constructor
  · rintro ⟨l, hl, hb⟩
    exact ⟨l, fewL_sub hl, hb⟩
  · rintro ⟨l, hl, hb⟩
    obtain ⟨m, hm, hc⟩ := cov_iff.mp (few_cov ks [] l hl)
    exact ⟨m, hm, beg_trans hb hc⟩
theorem Canon.eq_of {f : List (List Str)} (c : Canon f) {a b : List Str} (ha : a ∈ f) (hb : b ∈ f) (h : beg a b = true) : a = b := by
  obtain ⟨so, an⟩ := c
  induction f with
  | nil => cases ha
  | cons x f ih =>
    have p1 := List.pairwise_cons.mp an
    have s1 := List.pairwise_cons.mp so
    rcases List.mem_cons.mp ha with rfl | ha'
    · rcases List.mem_cons.mp hb with rfl | hb
      · rfl
      · obtain ⟨r, e⟩ := beg_iff.mp h
        have z1 := s1.1 b hb
        have z2 : lexT a b = false := by rw [e]; exact lex_pre b r
        have z := lexT_tot _ _ z2 z1
        exact z
    · rcases List.mem_cons.mp hb with rfl | hb'
      · have z := p1.1 a ha'
        rw [h] at z
        cases z
      · exact ih ha' hb' s1.2 p1.2
theorem Canon.nodup {f : List (List Str)} (c : Canon f) : f.Nodup := by
  refine List.Pairwise.imp (fun {x y} h e => ?_) c.an
  subst e
  rw [beg_self] at h
  cases h
/-- what two such lists cover tells them -/
theorem canon_uniq {f g : List (List Str)} (cf : Canon f) (cg : Canon g) (h : ∀ p, cov f p = cov g p) : f = g := by
  have half : ∀ {f g : List (List Str)}, Canon f → Canon g → (∀ p, cov f p = cov g p) → ∀ k ∈ f, k ∈ g := fun {f g} cf cg h k hk => by
    obtain ⟨l, hl, hb⟩ := cov_iff.mp (show cov g k = true from (h k).symm.trans (cov_of hk (beg_self k)))
    obtain ⟨m, hm, hc⟩ := cov_iff.mp (show cov f l = true from (h l).trans (cov_of hl (beg_self l)))
    have e := cf.eq_of hk hm (beg_trans hb hc)
    subst e
    rw [beg_both hb hc]
    exact hl
  refine srt_uniq f g cf.so cg.so ?_
  refine (List.perm_ext_iff_of_nodup cf.nodup cg.nodup).mpr fun k => ⟨half cf cg h k, half cg cf (fun p => (h p).symm) k⟩
theorem perm_cov {f g : List (List Str)} (h : f.Perm g) (p : List Str) : cov f p = cov g p := by
  rw [Bool.eq_iff_iff, cov_iff, cov_iff]
  constructor
  · rintro ⟨l, hl, hb⟩
    exact ⟨l, h.mem_iff.mp hl, hb⟩
  · rintro ⟨l, hl, hb⟩
    exact ⟨l, h.mem_iff.mpr hl, hb⟩
theorem or_cov (f g : List (List Str)) (p : List Str) : cov (f ++ g) p = (cov f p || cov g p) := List.any_append
theorem and_cov (f g : List (List Str)) (p : List Str) : cov (f.filter (cov g) ++ g.filter (cov f)) p = (cov f p && cov g p) := by
  rw [Bool.eq_iff_iff, Bool.and_eq_true, cov_iff]
  constructor
  · rintro ⟨l, hl, hb⟩
    have up : ∀ ks : List (List Str), cov ks l = true → cov ks p = true := fun ks z => by
      obtain ⟨m, hm, hc⟩ := cov_iff.mp z
      exact cov_of hm (beg_trans hb hc)
    rcases List.mem_append.mp hl with z | z
    · obtain ⟨a, b⟩ := List.mem_filter.mp z
      exact ⟨cov_of a hb, up _ b⟩
    · obtain ⟨a, b⟩ := List.mem_filter.mp z
      exact ⟨up _ b, cov_of a hb⟩
  · rintro ⟨h1, h2⟩
    obtain ⟨a, ha, hpa⟩ := cov_iff.mp h1
    obtain ⟨b, hb, hpb⟩ := cov_iff.mp h2
    rcases beg_two hpa hpb with z | z
    · exact ⟨a, List.mem_append_left _ (List.mem_filter.mpr ⟨ha, cov_of hb z⟩), hpa⟩
    · exact ⟨b, List.mem_append_right _ (List.mem_filter.mpr ⟨hb, cov_of ha z⟩), hpb⟩
/-! ### paths written as texts with points between their names -/
abbrev cl (x : Str) : List Nat := x.cps.toList
def dot : Str := "."
theorem dot_eq : dot = ⟨#[46]⟩ := by decide +kernel
/-- letters that come behind the point, one or more -/
def nmS (x : Str) : Prop := cl x ≠ [] ∧ ∀ c ∈ cl x, 46 < c
def jn (k : List Str) : Str := Txt.join dot k
theorem jn_join (k : List Str) : jn k = Str.join dot k := StrLaws.glued_eq_join dot k
theorem jn_one (x : Str) : jn [x] = x := by
  rw [jn_join]
  rfl
theorem jn_more (x y : Str) (r : List Str) : cl (jn (x :: y :: r)) = cl x ++ 46 :: cl (jn (y :: r)) := by
  rw [jn_join, jn_join]
  show ((x.cps ++ dot.cps) ++ (Str.join dot (y :: r)).cps).toList = _
  rw [Array.toList_append, Array.toList_append, dot_eq]
  simp
/-- a joined path: the first name, and nothing or a point behind it -/
theorem jn_front (x : Str) (r : List Str) : ∃ t, cl (jn (x :: r)) = cl x ++ t ∧ (t = [] ∧ r = [] ∨ ∃ y r', r = y :: r' ∧ t = 46 :: cl (jn r)) := by
  cases r with
  | nil => exact ⟨[], by rw [jn_one, List.append_nil], .inl ⟨rfl, rfl⟩⟩
  | cons y r => exact ⟨_, jn_more x y r, .inr ⟨y, r, rfl, rfl⟩⟩
theorem lt_tails : ∀ (x y t u : List Nat), x < y → (∀ c ∈ y, 46 < c) → (t = [] ∨ ∃ r, t = 46 :: r) → x ++ t < y ++ u
  | [], [], _, _, h, _, _ => absurd h (List.lt_irrefl _)
  | [], b :: y, t, u, _, hy, ht => by
    rcases ht with rfl | ⟨r, rfl⟩
    · exact List.nil_lt_cons _ _
    · exact List.cons_lt_cons_iff.mpr (.inl (hy b List.mem_cons_self))
  | a :: x, [], _, _, h, _, _ => absurd h (List.not_lt_nil _)
  | a :: x, b :: y, t, u, h, hy, ht => by
    rcases List.cons_lt_cons_iff.mp h with z | ⟨rfl, z⟩
    · exact List.cons_lt_cons_iff.mpr (.inl z)
    · exact List.cons_lt_cons_iff.mpr (.inr ⟨rfl, lt_tails x y t u z (fun c hc => hy c (List.mem_cons_of_mem _ hc)) ht⟩)
theorem lt_front : ∀ (x t u : List Nat), t < u → x ++ t < x ++ u
  | [], _, _, h => h
  | a :: x, t, u, h => List.cons_lt_cons_iff.mpr (.inr ⟨rfl, lt_front x t u h⟩)
theorem jn_lt : ∀ (k l : List Str), k ≠ [] → (∀ x ∈ k, nmS x) → (∀ x ∈ l, nmS x) → lexT k l = true → cl (jn k) < cl (jn l)
  | [], _, n, _, _, _ => absurd rfl n
  | x :: k, [], _, _, _, h => by cases h
  | x :: k, y :: l, _, hk, hl, h => by
    obtain ⟨t, e1, ht⟩ := jn_front x k
    obtain ⟨u, e2, hu⟩ := jn_front y l
    rw [e1, e2]
    unfold lexT at h
    by_cases g : x = y
    · subst g
      rw [if_pos rfl] at h
      refine lt_front _ _ _ ?_
      rcases ht with ⟨rfl, rfl⟩ | ⟨z, k', ek, rfl⟩
      · rcases hu with ⟨rfl, rfl⟩ | ⟨z, l', _, rfl⟩
        · cases h
        · exact List.nil_lt_cons _ _
      · rcases hu with ⟨rfl, rfl⟩ | ⟨z', l', el, rfl⟩
        · rw [ek] at h
          cases h
        · refine List.cons_lt_cons_iff.mpr (.inr ⟨rfl, ?_⟩)
          exact jn_lt k l (by rw [ek]; exact List.cons_ne_nil _ _) (fun c hc => hk c (List.mem_cons_of_mem _ hc)) (fun c hc => hl c (List.mem_cons_of_mem _ hc)) h
    · rw [if_neg g] at h
      refine lt_tails _ _ _ _ (of_decide_eq_true h) (hl y List.mem_cons_self).2 ?_
      rcases ht with ⟨rfl, _⟩ | ⟨z, k', _, rfl⟩
      · exact .inl rfl
      · exact .inr ⟨_, rfl⟩
/-- parts without points, told by what they are joined to -/
theorem cut_one : ∀ (x y t u : List Nat), 46 ∉ x → 46 ∉ y → (t = [] ∨ ∃ r, t = 46 :: r) → (u = [] ∨ ∃ r, u = 46 :: r) → x ++ t = y ++ u → x = y ∧ t = u
  | [], [], _, _, _, _, _, _, e => ⟨rfl, e⟩
  | [], b :: y, t, u, _, hy, ht, _, e => by
    rcases ht with rfl | ⟨r, rfl⟩
    · cases e
    · injection e with e1 e2
      subst e1
      exact absurd List.mem_cons_self hy
  | a :: x, [], t, u, hx, _, _, hu, e => by
    rcases hu with rfl | ⟨r, rfl⟩
    · cases e
    · injection e with e1 e2
      subst e1
      exact absurd List.mem_cons_self hx
  | a :: x, b :: y, t, u, hx, hy, ht, hu, e => by
    injection e with e1 e2
    obtain ⟨i1, i2⟩ := cut_one x y t u (fun z => hx (List.mem_cons_of_mem _ z)) (fun z => hy (List.mem_cons_of_mem _ z)) ht hu e2
    exact ⟨by rw [e1, i1], i2⟩
theorem jn_inj : ∀ (k l : List Str), k ≠ [] → l ≠ [] → (∀ x ∈ k, 46 ∉ cl x) → (∀ x ∈ l, 46 ∉ cl x) → cl (jn k) = cl (jn l) → k = l
  | [], _, n, _, _, _, _ => absurd rfl n
  | _ :: _, [], _, n, _, _, _ => absurd rfl n
  | x :: k, y :: l, _, _, hk, hl, e => by
    obtain ⟨t, e1, ht⟩ := jn_front x k
    obtain ⟨u, e2, hu⟩ := jn_front y l
    rw [e1, e2] at e
    have ht' : t = [] ∨ ∃ r, t = 46 :: r := ht.imp (·.1) fun ⟨_, _, _, z⟩ => ⟨_, z⟩
    have hu' : u = [] ∨ ∃ r, u = 46 :: r := hu.imp (·.1) fun ⟨_, _, _, z⟩ => ⟨_, z⟩
    obtain ⟨a, b⟩ := cut_one _ _ _ _ (hk x List.mem_cons_self) (hl y List.mem_cons_self) ht' hu' e
    have exy : x = y := cps_inj a
    subst exy
    rcases ht with ⟨rfl, rfl⟩ | ⟨z, k', ek, rfl⟩
    · rcases hu with ⟨rfl, rfl⟩ | ⟨z, l', el, rfl⟩
      · rfl
      · cases b
    · rcases hu with ⟨rfl, rfl⟩ | ⟨z', l', el, rfl⟩
      · cases b
      · injection b with _ b2
        rw [jn_inj k l (by rw [ek]; exact List.cons_ne_nil _ _) (by rw [el]; exact List.cons_ne_nil _ _) (fun c hc => hk c (List.mem_cons_of_mem _ hc)) (fun c hc => hl c (List.mem_cons_of_mem _ hc)) b2]
theorem nmS.free {x : Str} (h : nmS x) : 46 ∉ cl x := fun z => Nat.lt_irrefl _ (h.2 46 z)
/-- a path that is joined and split again -/
theorem split_jn {k : List Str} (hn : k ≠ []) (h : ∀ x ∈ k, nmS x) : Txt.split (jn k) dot = k := by
  have e1 : Str.join dot (Txt.split (jn k) dot) = jn k := StrLaws.join_split _ _
  have e2 : Txt.split (jn k) dot ≠ [] := fun z => by
    have := PyProof.Rows.split_pos (jn k) dot
    rw [z] at this
    exact absurd this (by decide)
  have e3 : ∀ p ∈ Txt.split (jn k) dot, 46 ∉ cl p := by
    rw [dot_eq]
    exact StrLaws.split_free (jn k) 46
  rw [← jn_join] at e1
  exact jn_inj _ _ e2 hn e3 (fun x hx => (h x hx).free) (by rw [e1])
theorem rising_pw : ∀ (p : Str) (l : List Str), PyProof.Rows.risingS p l = true → (∀ x ∈ l, ¬ cl x < cl p) ∧ l.Pairwise fun a b => ¬ cl b < cl a
  | _, [], _ => ⟨fun _ z => (List.not_mem_nil z).elim, .nil⟩
  | p, x :: r, h => by
    have h : (!Spec.ltCps x.cps.toList p.cps.toList && PyProof.Rows.risingS x r) = true := h
    rw [Bool.and_eq_true, Bool.not_eq_true', PyProof.Rows.ltCps_eq] at h
    obtain ⟨a, b⟩ := rising_pw x r h.2
    have h1 : ¬ cl x < cl p := of_decide_eq_false h.1
    refine ⟨fun y hy => ?_, .cons a b⟩
    rcases List.mem_cons.mp hy with rfl | hy
    · exact h1
    · intro z
      have z1 := a y hy
      rcases List.le_iff_lt_or_eq.mp (List.not_lt.mp z1) with q | q
      · exact h1 (List.lt_trans q z)
      · rw [← q] at z
        exact h1 z
theorem sorted_pw {l : List Str} (h : PyProof.Rows.sortedS l = true) : l.Pairwise fun a b => ¬ cl b < cl a := by
  cases l with
  | nil => exact .nil
  | cons x r =>
    obtain ⟨a, b⟩ := rising_pw x r h
    exact .cons a b
/-- the joined paths in order: the paths are, too -/
theorem jn_sorted {ks : List (List Str)} {ys : List Str} (hk : ∀ k ∈ ks, k ≠ [] ∧ ∀ x ∈ k, nmS x) (hp : ys.Perm (ks.map jn)) (hs : PyProof.Rows.sortedS ys = true) : ∃ zs : List (List Str), ys = zs.map jn ∧ zs.Perm ks ∧ SrtP zs ∧ zs = ys.map fun y => Txt.split y dot := by
  have back : ∀ k ∈ ks, Txt.split (jn k) dot = k := fun k h => split_jn (hk k h).1 (hk k h).2
  have of_y : ∀ y ∈ ys, ∃ k ∈ ks, jn k = y := fun y hy => List.mem_map.mp (hp.mem_iff.mp hy)
  have hz : (ys.map fun y => Txt.split y dot).Perm ks := by
    have z := hp.map fun y => Txt.split y dot
    rw [List.map_map] at z
    have e : ks.map ((fun y => Txt.split y dot) ∘ jn) = ks := by
      refine (List.map_congr_left fun k h => ?_).trans (List.map_id _)
      exact back k h
    rwa [e] at z
  have hy : ys = (ys.map fun y => Txt.split y dot).map jn := by
    rw [List.map_map]
    refine (List.map_id _).symm.trans (List.map_congr_left fun y h => ?_)
    obtain ⟨k, mk, rfl⟩ := of_y y h
    show jn k = jn (Txt.split (jn k) dot)
    rw [back k mk]
  refine ⟨_, hy, hz, ?_, rfl⟩
  refine List.pairwise_map.mpr ((sorted_pw hs).imp_of_mem fun {a b} ha hb h => ?_)
  obtain ⟨k, mk, rfl⟩ := of_y a ha
  obtain ⟨l, ml, rfl⟩ := of_y b hb
  rw [back k mk, back l ml]
  cases z : lexT l k with
  | false => rfl
  | true => exact absurd (jn_lt l k (hk l ml).1 (hk l ml).2 (hk k mk).2 z) h
/-! ### each once, and those alone that begin with no other one -/
def adK (ks : List (List Str)) (k : List Str) : List (List Str) := if k ∈ ks then ks else ks ++ [k]
def ddK (ks : List (List Str)) : List (List Str) := ks.foldl adK []
theorem ad_mem {ks : List (List Str)} {k l : List Str} : l ∈ adK ks k ↔ l ∈ ks ∨ l = k := by
  unfold adK
  split
  · rename_i h
    exact ⟨.inl, fun z => z.elim id fun e => e ▸ h⟩
  · rw [List.mem_append, List.mem_singleton]
theorem dd_mem : ∀ (ks acc : List (List Str)) {l : List Str}, l ∈ ks.foldl adK acc ↔ l ∈ acc ∨ l ∈ ks
  | [], acc, l => ⟨.inl, fun z => z.elim id fun q => (List.not_mem_nil q).elim⟩
  | k :: ks, acc, l => by
    rw [List.foldl_cons, dd_mem ks (adK acc k), ad_mem, List.mem_cons, or_assoc]
theorem ad_nodup {ks : List (List Str)} {k : List Str} (h : ks.Nodup) : (adK ks k).Nodup := by
  unfold adK
  split
  · exact h
  · rename_i z
    refine List.nodup_append.mpr ⟨h, by simp, fun a ha b hb e => ?_⟩
    rw [List.mem_singleton.mp hb] at e
    exact z (e ▸ ha)
theorem dd_nodup : ∀ (ks acc : List (List Str)), acc.Nodup → (ks.foldl adK acc).Nodup
  | [], _, h => h
  | k :: ks, acc, h => dd_nodup ks _ (ad_nodup h)
theorem dd_len : ∀ (ks acc : List (List Str)), (ks.foldl adK acc).length ≤ acc.length + ks.length
  | [], _ => Nat.le_refl _
  | k :: ks, acc => by
    have := dd_len ks (adK acc k)
    have z : (adK acc k).length ≤ acc.length + 1 := by
      unfold adK
      split
      · omega
      · rw [List.length_append, List.length_singleton]
        exact Nat.le_refl _
    rw [List.foldl_cons, List.length_cons]
    omega
theorem dd_take {ks : List (List Str)} {i : Nat} {k : List Str} (h : ks[i]? = some k) : ddK (ks.take (i + 1)) = adK (ddK (ks.take i)) k := by
  unfold ddK
  rw [List.take_add_one, h, List.foldl_append]
  rfl
theorem dd_id_go : ∀ (ks acc : List (List Str)), (acc ++ ks).Nodup → ks.foldl adK acc = acc ++ ks
  | [], acc, _ => (List.append_nil _).symm
  | k :: ks, acc, h => by
    have n : k ∉ acc := fun z => (List.nodup_append.mp h).2.2 k z k List.mem_cons_self rfl
    have e : adK acc k = acc ++ [k] := if_neg n
    rw [List.foldl_cons, e, dd_id_go ks (acc ++ [k]) (by rw [List.append_assoc]; exact h), List.append_assoc]
    rfl
theorem dd_id {ks : List (List Str)} (h : ks.Nodup) : ddK ks = ks := dd_id_go ks [] h
theorem mem_cov {ks ls : List (List Str)} (h : ∀ k, k ∈ ks ↔ k ∈ ls) (p : List Str) : cov ks p = cov ls p := by
  rw [Bool.eq_iff_iff, cov_iff, cov_iff]
  exact ⟨fun ⟨l, m, b⟩ => ⟨l, (h l).mp m, b⟩, fun ⟨l, m, b⟩ => ⟨l, (h l).mpr m, b⟩⟩
def leastL (ks zs : List (List Str)) : List (List Str) := zs.filter fun k => !cov ks k.dropLast
theorem least_cov {ks : List (List Str)} (hne : ∀ k ∈ ks, k ≠ []) : ∀ (n : Nat) (p l : List Str), l.length ≤ n → l ∈ ks → beg p l = true → ∃ m, m ∈ ks ∧ cov ks m.dropLast = false ∧ beg p m = true
  | 0, p, l, h, hl, _ => absurd (List.eq_nil_of_length_eq_zero (Nat.le_zero.mp h)) (hne l hl)
  | n + 1, p, l, h, hl, hb => by
    cases z : cov ks l.dropLast with
    | false => exact ⟨l, hl, z, hb⟩
    | true =>
      obtain ⟨m, hm, bm⟩ := cov_iff.mp z
      have pre : beg l l.dropLast = true := beg_iff.mpr ⟨[l.getLast (hne l hl)], (List.dropLast_concat_getLast (hne l hl)).symm⟩
      have len : m.length ≤ n := by
        obtain ⟨r, e⟩ := beg_iff.mp bm
        have e2 := congrArg List.length e
        rw [List.length_append, List.length_dropLast] at e2
        have : 0 < l.length := List.length_pos_iff.mpr (hne l hl)
        omega
      exact least_cov hne n p m len hm (beg_trans hb (beg_trans pre bm))
theorem least_same {ks zs : List (List Str)} (hp : zs.Perm ks) (hne : ∀ k ∈ ks, k ≠ []) (p : List Str) : cov (leastL ks zs) p = cov ks p := by
  rw [Bool.eq_iff_iff, cov_iff, cov_iff]
  constructor
  · rintro ⟨l, hl, hb⟩
    exact ⟨l, hp.mem_iff.mp (List.mem_filter.mp hl).1, hb⟩
  · rintro ⟨l, hl, hb⟩
    obtain ⟨m, hm, hc, hb2⟩ := least_cov hne _ p l (Nat.le_refl _) hl hb
    exact ⟨m, List.mem_filter.mpr ⟨hp.mem_iff.mpr hm, by rw [hc]; rfl⟩, hb2⟩
theorem least_canon {ks zs : List (List Str)} (hp : zs.Perm ks) (hn : ks.Nodup) (so : SrtP zs) : Canon (leastL ks zs) := by
  refine ⟨List.Pairwise.sublist List.filter_sublist so, ?_⟩
  have nd : (leastL ks zs).Pairwise (· ≠ ·) := List.Pairwise.sublist List.filter_sublist (hp.nodup_iff.mpr hn)
  refine nd.imp_of_mem fun {x y} hx hy n => ?_
  cases z : beg y x with
  | false => rfl
  | true =>
    obtain ⟨r, e⟩ := beg_iff.mp z
    have rn : r ≠ [] := fun q => n (by rw [e, q, List.append_nil])
    have e2 : y.dropLast = x ++ r.dropLast := by rw [e, List.dropLast_append_of_ne_nil rn]
    have c : cov ks y.dropLast = true := cov_of (hp.mem_iff.mp (List.mem_filter.mp hx).1) (beg_iff.mpr ⟨_, e2⟩)
    have d := (List.mem_filter.mp hy).2
    rw [c] at d
    cases d
/-- the list that a mask keeps, told by the paths handed in -/
theorem least_few {ks0 ks zs ls : List (List Str)} (hm : ∀ k, k ∈ ks ↔ k ∈ ks0) (hp : zs.Perm ks) (hn : ks.Nodup) (so : SrtP zs) (hne : ∀ k ∈ ks, k ≠ []) (pl : ls.Perm ks0) (sl : SrtP ls) : leastL ks zs = fewL ls :=
  canon_uniq (least_canon hp hn so) (few_canon sl) fun p => by
    rw [least_same hp hne, few_same, perm_cov pl, mem_cov hm]
theorem srt_exists (ks : List (List Str)) : ∃ ls : List (List Str), ls.Perm ks ∧ SrtP ls := by
  refine ⟨ks.mergeSort fun a b => !lexT b a, List.mergeSort_perm _ _, ?_⟩
  have z := List.pairwise_mergeSort (le := fun a b : List Str => !lexT b a) (fun a b c h1 h2 => ?_) (fun a b => ?_) ks
  · exact z.imp fun {a b} h => by simpa using h
  · have h1 : lexT b a = false := by simpa using h1
    have h2 : lexT c b = false := by simpa using h2
    show (!lexT c a) = true
    rw [lexT_tr a b c h1 h2]
    rfl
  · cases h : lexT b a with
    | false => rfl
    | true =>
      show (!true || !lexT a b) = true
      rw [lexT_asym _ _ h]
      rfl
/-- what the loop over a path's fronts asks -/
theorem fronts_cov {ks : List (List Str)} (hne : ∀ k ∈ ks, k ≠ []) (k : List Str) : ((List.range k.length).any fun i => decide (k.take (i + 1) ∈ ks)) = cov ks k := by
  rw [Bool.eq_iff_iff, List.any_eq_true, cov_iff]
  constructor
  · rintro ⟨i, hi, h⟩
    have hi := List.mem_range.mp hi
    refine ⟨_, of_decide_eq_true h, beg_iff.mpr ⟨k.drop (i + 1), (List.take_append_drop _ _).symm⟩⟩
  · rintro ⟨l, hl, hb⟩
    have h : k.take l.length = l := of_decide_eq_true hb
    have p := List.length_pos_iff.mpr (hne l hl)
    have q : l.length ≤ k.length := by
      have z := congrArg List.length h
      rw [List.length_take] at z
      omega
    refine ⟨l.length - 1, List.mem_range.mpr (by omega), decide_eq_true ?_⟩
    rw [show l.length - 1 + 1 = l.length by omega, h]
    exact hl
end K14
set_option maxHeartbeats 8000000
namespace K14
open PySem PySem.Spec PyProof.Rows L2 Zk Zs Zo Zd
def top (i : Nat) : Stmt := PySem.Challenge.pw_maskwrites_k09_masks_made.main.body.getD i (.Pass ⟨0, 0, 0, 0⟩)
def LET : Str := "abcdefghijklmnopqrstuvwxyz"
structure Txt (mg : Str → Option Value) : Prop where
  b_len : mg "len" = none
  b_isinstance : mg "isinstance" = none
  b_str : mg "str" = none
  b_int : mg "int" = none
  b_all : mg "all" = none
  b_any : mg "any" = none
  b_range : mg "range" = none
  b_tuple : mg "tuple" = none
  b_list : mg "list" = none
  b_sorted : mg "sorted" = none
  g_LETTERS : Gv mg "LETTERS" (.str LET)
  g_LONGEST_NAME : Gv mg "LONGEST_NAME" (.int 8)
section
variable {P : Program} {w : World} {K : PySem.W.Frag} {mg : Str → Option Value} {base : Heap} {f : Addr} {fd : FuncData}
abbrev s_law_tape : Stmt := top 18
theorem sc_law_tape : FnScope ["script", "start", "mixed", "cell", "digits"] ["script", "start"] (defScope s_law_tape) := ⟨rfl, rfl, rfl, by decide +kernel, rfl, by decide +kernel, by decide +kernel⟩
theorem ok_law_tape (T : Txt mg) (p : Pl K mg "_law_tape" s_law_tape ["script", "start"] f fd) : Dfo P w K mg base 1 "_law_tape" ["script", "start"] (spWell K) := by
  have S := sc_law_tape
  refine plo p (p.F.ok S (fun vs H Q E h => ?_) (fun cdv A out s H vs Q E hr h => ?_))
  · obtain ⟨a, ns, j, rfl, _⟩ := h
    rfl
  · obtain ⟨a, ns, j, rfl, hS, hlen, hb, j0, j1, q⟩ := h
    refine ⟨_, (pss_cons (ps_set (i := 2) S.nd rfl (.inl rfl) (pe_op op_add pe_int (pe_op op_mulG (pv 1) pe_int)))
    (pss_cons (ps_for PassesOwn.never rfl (pi_list (pv 0)) (pg_name (i := 3) S.nd rfl (.inl rfl))
      (pss_one (ps_set (i := 2) S.nd rfl (.inl rfl) (pe_op op_add (pe_op op_mod (pe_callTy call_int1 (by rfl) T.b_int (by decide +kernel) (pa_cons (pe_op op_powG (pe_op op_add (pe_op op_add (pe_op op_mulG (pv 2) pe_int) (pe_op op_mulG (pv 3) (pv 3))) pe_int) pe_int) pa_nil)) pe_int) pe_int))))
    (pss_cons (ps_set (i := 4) S.nd rfl (.inl rfl) (pe_ifExp (PW.pt (pw_and (pt_cmpR op_lt (pv 1) (pe_callB call_len_seq (by rfl) T.b_len (by decide +kernel) (pa_cons (pv 0) pa_nil)) (nomark _)) (pw_and1 (pt_cmpR op_ge (pe_ix ix_list (pv 0) (pv 1) (fun _ _ => rfl)) (pe_op op_powG pe_int pe_int) (nomark _))))) (pe_op op_sub (pe_ix ix_list (pv 0) (pv 1) (fun _ _ => rfl)) (pe_op op_powG pe_int pe_int)) pe_int))
    (pss_one (ps_ret (pe_disp (pps_cons pe_str (pv 4) (pps_cons pe_str (pv 2) pps_nil)) (by rfl) (by rfl) (fun z => by cases z) (by decide))))))), ?_⟩
    have bj : bits j ≤ 10 := bits_nn j0 (by omega)
    have b31 : bits 31 ≤ 7 := bits_nn (by decide) (by decide)
    refine ⟨_, rfl, _, _, rfl, rfl, (by show bits j + bits 31 ≤ 2 ^ 26; omega), _, _, rfl, rfl, ?_⟩
    refine ⟨_, rfl, a, rfl, ⟨_, hS⟩, for_list (K := K) (a := a) (xs := ns.map V.int) (fun i σ H' => H' = H ∧ ∃ (m : Int) (y : Option V), σ = [some (.ref a), some (.int j), some (.int m), y, none] ∧ 0 ≤ m ∧ m < 2 ^ 32)
      ⟨rfl, _, none, rfl, by omega, by omega⟩ (fun i σ H' _ hP => by rw [hP.1]; exact hS) (fun i x σ H' hx hP => ?_) (fun σ H' hP => ?_)⟩
    · obtain ⟨rfl, m, y, rfl, m0, m1⟩ := hP
      obtain ⟨e, he, rfl⟩ : ∃ e, e ∈ ns ∧ x = V.int e := by
        rw [List.getElem?_map] at hx
        cases z : ns[i]? with
        | none =>
          rw [z] at hx
          cases hx
        | some e =>
          rw [z] at hx
          exact ⟨e, List.mem_of_getElem? z, (Option.some.inj hx).symm⟩
      have be := hb e he
      have bm : bits m ≤ 32 := bits_nn m0 m1
      have b7 : bits 30011 ≤ 17 := bits_nn (by decide) (by decide)
      have b41 : bits 7 ≤ 3 := bits_nn (by decide) (by decide)
      have p1 := bits_mul m 30011
      have p2 := bits_mul e e
      have p3 : bits (m * 30011 + e * e) ≤ 2097153 := bits_add (n := 2097152) (by omega) (by omega)
      have p4 : bits (m * 30011 + e * e + 7) ≤ 2097154 := bits_add p3 (by omega)
      refine ⟨_, rfl, _, _, rfl, rfl, (by show bits m + bits 30011 ≤ 2 ^ 26; omega), _, rfl, _, rfl, _, _, rfl, rfl, (by show bits e + bits e ≤ 2 ^ 26; omega), _, _, rfl, rfl, _, _, rfl, rfl, _, _, rfl, rfl, ⟨by decide, ?_⟩, .inl ⟨_, rfl, _, _, rfl, rfl, (by show (0 : Int) < 2147483563; decide), _, _, rfl, rfl, rfl, _, _, rfl, ?_, ?_⟩⟩
      · show (bits (m * 30011 + e * e + 7) : Int) * 2 ≤ 2 ^ 27
        omega
      · have := Int.emod_nonneg ((m * 30011 + e * e + 7) ^ (2 : Int).toNat) (by decide : (2147483563 : Int) ≠ 0)
        omega
      · have := Int.emod_lt_of_pos ((m * 30011 + e * e + 7) ^ (2 : Int).toNat) (by decide : (0 : Int) < 2147483563)
        omega
    · obtain ⟨rfl, m, y, rfl, m0, m1⟩ := hP
      -- the end: whatever digits are
      have fin : ∀ d : Int, 0 ≤ d → bits d ≤ 2000000 → ∀ p, H' p = none → Q (.ref p) (upd (upd H' p (.dK [])) p (wellO d m)) := fun d d0 d1 p np => by
        rw [upd_upd]
        exact q _ _ (same_new np) np ⟨d, m, upd_same, d0, d1, m0, m1⟩
      have ret : ∀ d : Int, 0 ≤ d → bits d ≤ 2000000 → ∀ p, H' p = none → Q (.ref p) (upd (upd H' p (.dK [])) p (.dK (mergeK [] [(kD, V.int d), (kM, V.int m)]))) := fun d d0 d1 p np => by
        rw [well_merge]
        exact fin d d0 d1 p np
      refine ⟨_, rfl, _, rfl, a, _, rfl, .inl hS, _, _, rfl, rfl, _, rfl, ?_⟩
      have small : bits 0 ≤ 2000000 := by decide
      refine ite2 (fun e => ?_) (fun e => ?_)
      · have e1 : j < ((ns.map V.int).length : Int) := of_decide_eq_true e
        rw [List.length_map] at e1
        obtain ⟨k, rfl⟩ : ∃ k : Nat, j = k := ⟨j.toNat, by omega⟩
        have hk : k < ns.length := by omega
        have g : (ns.map V.int)[k]? = some (.int ns[k]) := by
          rw [List.getElem?_map, List.getElem?_eq_getElem hk]
          rfl
        have b10 : bits 10 ≤ 4 := bits_nn (by decide) (by decide)
        have hp : (0 : Int) ≤ 18 ∧ (bits 10 : Int) * 18 ≤ 2 ^ 27 := ⟨by decide, by omega⟩
        refine ⟨_, rfl, _, rfl, a, _, _, _, rfl, rfl, hS, atI_nat g, _, _, rfl, rfl, hp, _, _, rfl, rfl, _, rfl, ?_⟩
        refine ite2 (fun e2 => ?_) (fun e2 => ?_)
        · have e3 := of_decide_eq_true e2
          refine ⟨_, rfl, _, rfl, a, _, _, _, rfl, rfl, hS, atI_nat g, _, _, rfl, rfl, hp, _, _, rfl, rfl, fun p np => ?_⟩
          refine ⟨_, rfl, _, rfl, upd_same, [(kD, _), (kM, _)], rfl, by show 2 ≤ 15; decide, ?_⟩
          refine ret _ (by omega) ?_ p np
          refine Nat.le_trans (bits_le (j := ns[k]) ?_) (Nat.le_trans (hb _ (List.getElem_mem hk)) (by decide))
          have z : (0 : Int) ≤ 10 ^ (18 : Int).toNat := by decide
          omega
        · refine fun p np => ?_
          refine ⟨_, rfl, _, rfl, upd_same, [(kD, _), (kM, _)], rfl, by show 2 ≤ 15; decide, ?_⟩
          exact ret 0 (by decide) small p np
      · refine fun p np => ?_
        refine ⟨_, rfl, _, rfl, upd_same, [(kD, _), (kM, _)], rfl, by show 2 ≤ 15; decide, ?_⟩
        exact ret 0 (by decide) small p np
abbrev s_law_pick : Stmt := top 19
theorem sc_law_pick : FnScope ["tape", "many", "found", "once"] ["tape", "many"] (defScope s_law_pick) := ⟨rfl, rfl, rfl, by decide +kernel, rfl, by decide +kernel, by decide +kernel⟩
theorem ok_law_pick (T : Txt mg) (p : Pl K mg "_law_pick" s_law_pick ["tape", "many"] f fd) : Dfo P w K mg base 1 "_law_pick" ["tape", "many"] spDraw := by
  have S := sc_law_pick
  refine plo p (p.F.ok S (fun vs H Q E h => ?_) (fun cdv A out s H vs Q E hr h => ?_))
  · obtain ⟨p, b, rfl, _⟩ := h
    rfl
  · obtain ⟨p, b, rfl, ⟨d, m, hw, d0, d1, m0, m1⟩, b0, b1, q⟩ := h
    refine ⟨_, (pss_cons (ps_if (pt_cmpR op_ge (pe_dget (hu_of hr) (pv 0) pe_str (fun _ _ => rfl)) (pv 1) (nomark _))
      (pss_cons (ps_set (i := 2) S.nd rfl (.inl rfl) (pe_op op_mod (pe_callTy call_int1 (by rfl) T.b_int (by decide +kernel) (pa_cons (pe_dget (hu_of hr) (pv 0) pe_str (fun _ _ => rfl)) pa_nil)) (pv 1)))
      (pss_cons (ps_dput (hu_of hr) (pv 0) pe_str (pe_op op_fdiv (pe_dget (hu_of hr) (pv 0) pe_str (fun _ _ => rfl)) (pv 1)) rfl)
      (pss_one (ps_ret (pv 2)))))
      pss_nil)
    (pss_cons (ps_dput (hu_of hr) (pv 0) pe_str (pe_op op_mod (pe_callTy call_int1 (by rfl) T.b_int (by decide +kernel) (pa_cons (pe_op op_add (pe_op op_mulG (pe_dget (hu_of hr) (pv 0) pe_str (fun _ _ => rfl)) pe_int) pe_int) pa_nil)) pe_int) rfl)
    (pss_cons (ps_set (i := 3) S.nd rfl (.inl rfl) (pe_op op_mod (pe_callTy call_int1 (by rfl) T.b_int (by decide +kernel) (pa_cons (pe_op op_powG (pe_dget (hu_of hr) (pv 0) pe_str (fun _ _ => rfl)) pe_int) pa_nil)) pe_int))
    (pss_one (ps_ret (pe_op op_mod (pe_callTy call_int1 (by rfl) T.b_int (by decide +kernel) (pa_cons (pe_op op_fdiv (pe_op op_mod (pe_callTy call_int1 (by rfl) T.b_int (by decide +kernel) (pa_cons (pe_op op_powG (pv 3) pe_int) pa_nil)) pe_int) pe_int) pa_nil)) (pv 1))))))), ?_⟩
    refine ⟨_, rfl, p, _, rfl, wellD hw, _, rfl, _, _, rfl, rfl, _, rfl, ite2 (fun e => ?_) (fun e => ?_)⟩
    · refine ⟨_, rfl, p, _, rfl, wellD hw, .inl ⟨_, rfl, _, rfl, _, _, rfl, rfl, b0, ?_⟩⟩
      refine ⟨_, rfl, p, _, rfl, wellD hw, _, rfl, _, _, rfl, rfl, ⟨b0, by omega⟩, _, rfl, p, _, rfl, wellPD hw, ?_⟩
      refine ⟨_, rfl, ?_⟩
      refine q _ _ ExB.put ⟨d / b, m, upd_same, Int.ediv_nonneg d0 (by omega), ?_, m0, m1⟩ (Int.emod_nonneg _ (by omega)) (Int.emod_lt_of_pos _ b0)
      refine Nat.le_trans (bits_le ?_) d1
      have := Int.ediv_le_self b d0
      have := Int.ediv_nonneg d0 (Int.le_of_lt b0)
      omega
    · have bm : bits m ≤ 32 := bits_nn m0 m1
      have b4 : bits 40014 ≤ 16 := bits_nn (by decide) (by decide)
      refine ⟨_, rfl, p, _, rfl, wellM hw, _, _, rfl, rfl, (by show bits m + bits 40014 ≤ 2 ^ 26; omega), _, _, rfl, rfl, .inl ⟨_, rfl, _, _, rfl, rfl, (by show (0 : Int) < 2147483563; decide), ?_⟩⟩
      have n0 := Int.emod_nonneg (m * 40014 + 1013) (by decide : (2147483563 : Int) ≠ 0)
      have n1 := Int.emod_lt_of_pos (m * 40014 + 1013) (by decide : (0 : Int) < 2147483563)
      have bm2 : bits ((m * 40014 + 1013) % 2147483563) ≤ 32 := bits_nn n0 (by omega)
      refine ⟨_, rfl, p, _, rfl, wellPM hw, ?_⟩
      refine ⟨_, rfl, p, _, rfl, wellM upd_same, _, _, rfl, rfl, ⟨by decide, (by show (bits ((m * 40014 + 1013) % 2147483563) : Int) * 2 ≤ 2 ^ 27; omega)⟩, .inl ⟨_, rfl, _, _, rfl, rfl, (by show (0 : Int) < 2147483399; decide), ?_⟩⟩
      have k0 := Int.emod_nonneg (((m * 40014 + 1013) % 2147483563) ^ (2 : Int).toNat) (by decide : (2147483399 : Int) ≠ 0)
      have k1 := Int.emod_lt_of_pos (((m * 40014 + 1013) % 2147483563) ^ (2 : Int).toNat) (by decide : (0 : Int) < 2147483399)
      have bm3 : bits (((m * 40014 + 1013) % 2147483563) ^ (2 : Int).toNat % 2147483399) ≤ 32 := bits_nn k0 (by omega)
      refine ⟨_, rfl, _, _, rfl, rfl, ⟨by decide, (by show (bits (((m * 40014 + 1013) % 2147483563) ^ (2 : Int).toNat % 2147483399) : Int) * 3 ≤ 2 ^ 27; omega)⟩, .inl ⟨_, rfl, _, _, rfl, rfl, (by show (0 : Int) < 998244353; decide), _, _, rfl, rfl, ⟨by decide, by decide⟩, .inl ⟨_, rfl, _, rfl, _, _, rfl, rfl, b0, ?_⟩⟩⟩
      exact q _ _ ExB.put ⟨d, _, upd_same, d0, d1, n0, by omega⟩ (Int.emod_nonneg _ (by omega)) (Int.emod_lt_of_pos _ b0)
abbrev s_law_one_of : Stmt := top 20
theorem sc_law_one_of : FnScope ["tape", "items"] ["tape", "items"] (defScope s_law_one_of) := ⟨rfl, rfl, rfl, by decide +kernel, rfl, by decide +kernel, by decide +kernel⟩
theorem ok_law_one_of (T : Txt mg) (p : Pl K mg "_law_one_of" s_law_one_of ["tape", "items"] f fd) (D_law_pick : Dfo P w K mg base 1 "_law_pick" ["tape", "many"] spDraw) : Dfo P w K mg base 2 "_law_one_of" ["tape", "items"] (spChoose K) := by
  have S := sc_law_one_of
  refine plo p (p.F.ok S (fun vs H Q E h => ?_) (fun cdv A out s H vs Q E hr h => ?_))
  · obtain ⟨p, t, xs, rfl, _⟩ := h
    rfl
  · obtain ⟨p, t, xs, rfl, hw, hS, hne, hl, q⟩ := h
    refine ⟨_, (pss_one (ps_ret (pe_ix ix_list (pv 1) (po_call D_law_pick (hr.mono (by decide)) (by rfl) (pa_cons (pv 0) (pa_cons (pe_callB call_len_seq (by rfl) T.b_len (by decide +kernel) (pa_cons (pv 1) pa_nil)) pa_nil))) (fun _ _ => rfl)))), ?_⟩
    have h0 : 0 < xs.length := by
      cases xs with
      | nil => exact absurd rfl hne
      | cons => exact Nat.succ_pos _
    refine ⟨_, rfl, _, rfl, _, rfl, t, xs, rfl, .inl hS, p, xs.length, rfl, hw, by omega, by omega, fun H1 r e1 w1 r0 r1 => ?_⟩
    obtain ⟨j, rfl⟩ : ∃ j : Nat, r = j := ⟨r.toNat, by omega⟩
    have hj : j < xs.length := by omega
    exact ⟨t, xs, j, xs[j], rfl, rfl, seq_exb hw hS e1, atI_nat (List.getElem?_eq_getElem hj), q _ _ e1 w1 (List.getElem_mem hj)⟩
end
end K14
set_option maxHeartbeats 8000000
namespace K14
open PySem PySem.Spec PyProof.Rows L2 Zk Zs Zo Zd
/-- addresses of tuples of texts, and the texts -/
inductive PthA (H : Hp) : List V → List (List Str) → Prop
  | nil : PthA H [] []
  | cons {t : Addr} {vs : List V} {k : List Str} {ks : List (List Str)} : H t = some (.tup (k.map V.str)) → PthA H vs ks → PthA H (.ref t :: vs) (k :: ks)
theorem PthA.imp {H H' : Hp} {vs : List V} {ks : List (List Str)} (h : PthA H vs ks) (e : ∀ (t : Addr) (k : List Str), H t = some (.tup (k.map V.str)) → H' t = some (.tup (k.map V.str))) : PthA H' vs ks := by
  induction h with
  | nil => exact .nil
  | cons a _ ih => exact .cons (e _ _ a) ih
theorem PthA.mono {H H' : Hp} {vs : List V} {ks : List (List Str)} (h : PthA H vs ks) (s : Same H H') : PthA H' vs ks := h.imp fun t k e => s _ _ e
theorem PthA.exb {H H' : Hp} {vs : List V} {ks : List (List Str)} {p : Addr} {o : HO} (h : PthA H vs ks) (x : ExB p H H') (hp : H p = some o) (ho : ∀ ys, o ≠ .tup ys) : PthA H' vs ks :=
  h.imp fun t k e => x _ _ (ne_of e hp (fun z => ho _ z.symm)) e
theorem PthA.snoc {H : Hp} {vs : List V} {ks : List (List Str)} {t : Addr} {k : List Str} (h : PthA H vs ks) (e : H t = some (.tup (k.map V.str))) : PthA H (vs ++ [.ref t]) (ks ++ [k]) := by
  induction h with
  | nil => exact .cons e .nil
  | cons a _ ih => exact .cons a ih
theorem PthA.len {H : Hp} {vs : List V} {ks : List (List Str)} (h : PthA H vs ks) : vs.length = ks.length := by
  induction h with
  | nil => rfl
  | cons a _ ih => rw [List.length_cons, List.length_cons, ih]
def NM : List Str := ["a", "b", "aa", "m"]
def okP (k : List Str) : Prop := k ≠ [] ∧ k.length ≤ 3 ∧ ∀ x ∈ k, x ∈ NM
def spPath : Sp := fun vs H Q _ => ∃ p, vs = [.ref p] ∧ WellAt H p ∧ ∀ (H' : Hp) (t : Addr) (k : List Str), ExB p H H' → WellAt H' p → H t = none → H' t = some (.tup (k.map V.str)) → okP k → Q (.ref t) H'
def spDrawn : Sp := fun vs H Q _ => ∃ p, vs = [.ref p] ∧ WellAt H p ∧ ∀ H' l vs ks, ExB p H H' → WellAt H' p → H l = none → H' l = some (.lst vs) → PthA H' vs ks → ks.length ≤ 6 → (∀ k ∈ ks, okP k) → Q (.ref l) H'
theorem ExB.free {p a : Addr} {H H' : Hp} (x : ExB p H H') (n : a ≠ p) (h : H' a = none) : H a = none := by
  cases e : H a with
  | none => rfl
  | some o =>
    rw [x _ _ n e] at h
    cases h
theorem well_not {H : Hp} {p a : Addr} (w : WellAt H p) (h : H a = none) : a ≠ p := by
  obtain ⟨d, m, e, _⟩ := w
  exact (ne_of_none e h).symm
theorem well_upd {H : Hp} {p a : Addr} {o : HO} (w : WellAt H p) (n : a ≠ p) : WellAt (upd H a o) p := by
  obtain ⟨d, m, e, r⟩ := w
  refine ⟨d, m, ?_, r⟩
  rw [upd_ne n.symm]
  exact e
theorem exb_upd {H0 H : Hp} {p a : Addr} {o : HO} (x : ExB p H0 H) (h : H0 a = none) : ExB p H0 (upd H a o) := fun b u n e => by
  rw [upd_ne (ne_of_none e h)]
  exact x b u n e
section
variable {P : Program} {w : World} {K : PySem.W.Frag} {mg : Str → Option Value} {base : Heap} {f : Addr} {fd : FuncData}
abbrev s_law_path : Stmt := top 21
theorem sc_law_path : FnScope ["tape", "many", "turn"] ["tape"] (defScope s_law_path) := ⟨rfl, rfl, rfl, by decide +kernel, rfl, by decide +kernel, by decide +kernel⟩
theorem ok_law_path (T : Txt mg) (p : Pl K mg "_law_path" s_law_path ["tape"] f fd) (D_law_pick : Dfo P w K mg base 1 "_law_pick" ["tape", "many"] spDraw) (D_law_one_of : Dfo P w K mg base 2 "_law_one_of" ["tape", "items"] (spChoose K)) : Dfo P w K mg base 3 "_law_path" ["tape"] spPath := by
  have S := sc_law_path
  refine plo p (p.F.ok S (fun vs H Q E h => ?_) (fun cdv A out s H vs Q E hr h => ?_))
  · obtain ⟨p, rfl, _⟩ := h
    rfl
  · obtain ⟨p, rfl, hw, q⟩ := h
    refine ⟨_, (pss_cons (ps_set (i := 1) S.nd rfl (.inl rfl) (pe_op op_add pe_int (po_call D_law_pick (hr.mono (by decide)) (by rfl) (pa_cons (pv 0) (pa_cons pe_int pa_nil)))))
    (pss_one (ps_ret (pe_callTy (call_tupleK (K := K) rfl) (by rfl) T.b_tuple (by decide +kernel) (pa_cons (pe_lc (own := [("turn", 2)]) rfl S.nd (pi_range1 (by rfl) T.b_range (pa_cons (pv 1) pa_nil)) (blkOk_by (own := [("turn", 2)]) (N := ["tape", "many", "turn"]) (sc := defScope s_law_path) (by decide +kernel)) (fun _ _ _ _ _ => (pg_name (i := 2) S.nd rfl (.inl rfl))) (fun _ _ _ _ _ => pts_nil) (fun _ _ _ _ _ => (po_call D_law_one_of (hr.mono (by decide)) (by rfl) (pa_cons (pv 0) (pa_cons (pe_lst (pa_cons pe_str (pa_cons pe_str (pa_cons pe_str (pa_cons pe_str pa_nil))))) pa_nil))))) pa_nil))))), ?_⟩
    refine ⟨_, rfl, p, 3, rfl, hw, by decide, by decide, fun H1 r e1 w1 r0 r1 => ⟨_, _, rfl, rfl, ?_⟩⟩
    refine ⟨_, rfl, 1 + r, rfl, by omega, by omega, fun D nD => ?_⟩
    have dp := well_not w1 nD
    have nD0 := ExB.free e1 dp nD
    refine lc_range (lo := 0) (n := (1 + r).toNat) (fun t H' => ExB p H H' ∧ WellAt H' p ∧ ∃ k : List Str, H' D = some (.lst (k.map V.str)) ∧ k.length = t ∧ ∀ x ∈ k, x ∈ NM) ⟨exb_upd e1 nD0, well_upd w1 dp, [], upd_same, rfl, fun _ z => by cases z⟩ (fun t H2 ht hP => ?_) (fun H2 hP => ?_)
    · obtain ⟨x2, w2, k, hD, hk, hn⟩ := hP
      refine ⟨rfl, yes_go ?_⟩
      refine ⟨_, rfl, (by show 4 ≤ sizeLine; decide), fun l nl => ?_⟩
      have lp := well_not w2 nl
      have sl := same_new (o := .lst [.str "a", .str "b", .str "aa", .str "m"]) nl
      refine ⟨p, l, _, rfl, w2.same sl, SqL.of upd_same, (fun z => by cases z), (by show 4 ≤ 1000000; decide), fun H4 v e4 w4 hv => ?_⟩
      have hD4 := e4 _ _ dp (sl _ _ hD)
      obtain ⟨y, hy, rfl⟩ : ∃ y, y ∈ NM ∧ v = V.str y := by
        simp only [List.mem_cons, List.not_mem_nil, or_false] at hv
        rcases hv with rfl | rfl | rfl | rfl <;> exact ⟨_, by simp [NM], rfl⟩
      refine ⟨_, hD4, ?_, ?_, well_upd w4 dp, k ++ [y], ?_, ?_, ?_⟩
      · rw [List.length_map]
        exact small1000 (by omega)
      · have x4 : ExB p H H4 := fun b u n e => e4 b u n (sl _ _ (x2 b u n e))
        exact exb_upd x4 nD0
      · rw [upd_same, List.map_append]
        rfl
      · rw [List.length_append, List.length_singleton, hk]
      · intro x hx
        rcases List.mem_append.mp hx with z | z
        · exact hn x z
        · rw [List.mem_singleton.mp z]
          exact hy
    · obtain ⟨x2, w2, k, hD, hk, hn⟩ := hP
      refine ⟨D, _, rfl, .inl ⟨SqL.of hD, fun l nl => ?_⟩⟩
      have lp := well_not w2 nl
      have nl0 := ExB.free x2 lp nl
      refine q _ l k (exb_upd x2 nl0) (well_upd w2 lp) nl0 upd_same ⟨?_, by omega, hn⟩
      intro z
      rw [z] at hk
      have : (1 + r).toNat = 0 := hk.symm
      omega
abbrev s_law_drawn : Stmt := top 25
theorem sc_law_drawn : FnScope ["tape", "turn"] ["tape"] (defScope s_law_drawn) := ⟨rfl, rfl, rfl, by decide +kernel, rfl, by decide +kernel, by decide +kernel⟩
theorem ok_law_drawn (T : Txt mg) (p : Pl K mg "_law_drawn" s_law_drawn ["tape"] f fd) (D_law_pick : Dfo P w K mg base 1 "_law_pick" ["tape", "many"] spDraw) (D_law_path : Dfo P w K mg base 3 "_law_path" ["tape"] spPath) : Dfo P w K mg base 4 "_law_drawn" ["tape"] spDrawn := by
  have S := sc_law_drawn
  refine plo p (p.F.ok S (fun vs H Q E h => ?_) (fun cdv A out s H vs Q E hr h => ?_))
  · obtain ⟨p, rfl, _⟩ := h
    rfl
  · obtain ⟨p, rfl, hw, q⟩ := h
    refine ⟨_, (pss_one (ps_ret (pe_lc (own := [("turn", 1)]) rfl S.nd (pi_range1 (by rfl) T.b_range (pa_cons (po_call D_law_pick (hr.mono (by decide)) (by rfl) (pa_cons (pv 0) (pa_cons pe_int pa_nil))) pa_nil)) (blkOk_by (own := [("turn", 1)]) (N := ["tape", "turn"]) (sc := defScope s_law_drawn) (by decide +kernel)) (fun _ _ _ _ _ => (pg_name (i := 1) S.nd rfl (.inl rfl))) (fun _ _ _ _ _ => pts_nil) (fun _ _ _ _ _ => (po_call D_law_path (hr.mono (by decide)) (by rfl) (pa_cons (pv 0) pa_nil)))))), ?_⟩
    refine ⟨_, rfl, p, 7, rfl, hw, by decide, by decide, fun H1 r e1 w1 r0 r1 => ?_⟩
    refine ⟨r, rfl, by omega, by omega, fun D nD => ?_⟩
    have dp := well_not w1 nD
    have nD0 := ExB.free e1 dp nD
    refine lc_range (lo := 0) (n := r.toNat) (fun t H' => ExB p H H' ∧ WellAt H' p ∧ ∃ vs ks, H' D = some (.lst vs) ∧ PthA H' vs ks ∧ ks.length = t ∧ ∀ k ∈ ks, okP k) ⟨exb_upd e1 nD0, well_upd w1 dp, [], [], upd_same, .nil, rfl, fun _ z => by cases z⟩ (fun t H2 ht hP => ?_) (fun H2 hP => ?_)
    · obtain ⟨x2, w2, vs, ks, hD, hp, hk, hn⟩ := hP
      refine ⟨rfl, yes_go ?_⟩
      refine ⟨_, rfl, p, rfl, w2, fun H4 a k e4 w4 na ea ok => ?_⟩
      have hD4 := e4 _ _ dp hD
      obtain ⟨d2, m2, hw2, _⟩ := w2
      have hp4 := hp.exb e4 hw2 (fun ys z => by cases z)
      have x4 : ExB p H H4 := fun b u n e => e4 b u n (x2 b u n e)
      have xD : ExB D H4 (upd H4 D (.lst (vs ++ [.ref a]))) := ExB.put
      refine ⟨_, hD4, ?_, exb_upd x4 nD0, well_upd w4 dp, _, ks ++ [k], upd_same, ?_, ?_, ?_⟩
      · rw [hp.len]
        exact small1000 (by omega)
      · exact (hp4.snoc ea).exb xD hD4 (fun ys z => by cases z)
      · rw [List.length_append, List.length_singleton, hk]
      · intro x hx
        rcases List.mem_append.mp hx with z | z
        · exact hn x z
        · rw [List.mem_singleton.mp z]
          exact ok
    · obtain ⟨x2, w2, vs, ks, hD, hp, hk, hn⟩ := hP
      exact q _ D vs ks x2 w2 nD0 hD hp (by omega) hn
end
end K14
set_option maxHeartbeats 8000000
namespace K14
open PySem PySem.Spec PyProof.Rows L2 Zk Zs Zo Zd
def letB (x : Str) : Bool := x.cps.toList.all fun c => decide (c ∈ LET.cps.toList)
def rowD : PyData → Bool
  | .str x => letB x
  | _ => false
def nameD : PyData → Bool
  | .str x => letB x && (decide (1 ≤ x.length) && decide (x.length ≤ 8))
  | _ => false
def textD : PyData → Bool
  | .str x => letB x && decide (x.length ≤ 12)
  | _ => false
def numD : PyData → Bool
  | .int i => decide (0 ≤ i)
  | _ => false
def flagD : PyData → Bool
  | .bool _ => true
  | _ => false
def okD (d : PyData) : Prop := ∀ x, d = .str x → x.length ≤ 1000
def spD (f : PyData → Bool) : Sp := fun vs H Q _ => ∃ v d, vs = [v] ∧ Dx H v d ∧ okD d ∧ ∀ H', Same H H' → Q (.bl (f d)) H'
def isS : PyData → Bool
  | .str _ => true
  | _ => false
theorem str_ty (d : PyData) : kitB (tyD d) "str" = some (isS d) := by
  cases d with
  | none  => exact (by decide +kernel : kitB "NoneType" "str" = some false)
  | bool _ => exact (by decide +kernel : kitB "bool" "str" = some false)
  | int _ => exact (by decide +kernel : kitB "int" "str" = some false)
  | str _ => exact (by decide +kernel : kitB "str" "str" = some true)
  | list _ => exact (by decide +kernel : kitB "list" "str" = some false)
  | tuple _ => exact (by decide +kernel : kitB "tuple" "str" = some false)
  | dict _ => exact (by decide +kernel : kitB "dict" "str" = some false)
def isI : PyData → Bool
  | .int _ => true
  | .bool _ => true
  | _ => false
theorem int_ty (d : PyData) : kitB (tyD d) "int" = some (isI d) := by
  cases d with
  | none  => exact (by decide +kernel : kitB "NoneType" "int" = some false)
  | bool _ => exact (by decide +kernel : kitB "bool" "int" = some true)
  | int _ => exact (by decide +kernel : kitB "int" "int" = some true)
  | str _ => exact (by decide +kernel : kitB "str" "int" = some false)
  | list _ => exact (by decide +kernel : kitB "list" "int" = some false)
  | tuple _ => exact (by decide +kernel : kitB "tuple" "int" = some false)
  | dict _ => exact (by decide +kernel : kitB "dict" "int" = some false)
def isB : PyData → Bool
  | .bool _ => true
  | _ => false
theorem bool_ty (d : PyData) : kitB (tyD d) "bool" = some (isB d) := by
  cases d with
  | none  => exact (by decide +kernel : kitB "NoneType" "bool" = some false)
  | bool _ => exact (by decide +kernel : kitB "bool" "bool" = some true)
  | int _ => exact (by decide +kernel : kitB "int" "bool" = some false)
  | str _ => exact (by decide +kernel : kitB "str" "bool" = some false)
  | list _ => exact (by decide +kernel : kitB "list" "bool" = some false)
  | tuple _ => exact (by decide +kernel : kitB "tuple" "bool" = some false)
  | dict _ => exact (by decide +kernel : kitB "dict" "bool" = some false)
theorem isstr {d : PyData} {v : V} {H : Hp} (h : Dx H v d) : (∃ x, d = .str x ∧ v = .str x) ∨ (∀ x, d ≠ .str x) := by
  cases h with
  | str x => exact .inl ⟨x, rfl, rfl⟩
  | _ => exact .inr (fun x z => by cases z)
section
variable {P : Program} {w : World} {K : PySem.W.Frag} {mg : Str → Option Value} {base : Heap} {f : Addr} {fd : FuncData}
-- 9 is_letter_row
abbrev s_is_letter_row : Stmt := top 8
theorem sc_is_letter_row : FnScope ["value", "sign"] ["value"] (defScope s_is_letter_row) := ⟨rfl, rfl, rfl, by decide +kernel, rfl, by decide +kernel, by decide +kernel⟩
theorem ok_is_letter_row (T : Txt mg) (p : Pl K mg "is_letter_row" s_is_letter_row ["value"] f fd) : Dfo P w K mg base 1 "is_letter_row" ["value"] (spD rowD) := by
  have S := sc_is_letter_row
  refine plo p (p.F.ok S (fun vs H Q E h => ?_) (fun cdv A out s H vs Q E hr h => ?_))
  · obtain ⟨v, d, rfl, _⟩ := h
    rfl
  · obtain ⟨v, d, rfl, hd, hk, q⟩ := h
    refine ⟨_, (pss_one (ps_ret (pe_and (pe_callB call_isD (by rfl) T.b_isinstance (by decide +kernel) (pa_cons (pv 0) (pa_cons (pe_bltn (v := .ty "str") (by rfl) T.b_str (by decide +kernel) rfl) pa_nil))) (pe_one (pe_callB (cr_all rfl) (by rfl) T.b_all (by decide +kernel) (pa_cons (pe_lc (own := [("sign", 1)]) rfl S.nd (pi_str (pv 0)) (blkOk_by (own := [("sign", 1)]) (N := ["value", "sign"]) (sc := defScope s_is_letter_row) (by decide +kernel)) (fun _ _ _ _ _ => (pg_name (i := 1) S.nd rfl (.inl rfl))) (fun _ _ _ _ _ => pts_nil) (fun _ _ _ _ _ => (pe_cmpR op_in_sign (pv 1) (pe_gs T.g_LETTERS (by rfl)) rfl))) pa_nil)))))), ?_⟩
    refine ⟨v, rfl, _, v, d, _, rfl, hd, str_ty d, _, rfl, ?_⟩
    rcases isstr hd with ⟨x, rfl, rfl⟩ | hn
    · refine iteT ⟨_, rfl, x, rfl, fun D nD => ?_⟩
      have hx := hk x rfl
      refine lc_it walk_str (fun i H' => Same H H' ∧ H' D = some (.lst (((x.cps.toList.map fun c => decide (c ∈ LET.cps.toList)).take i).map V.bl))) ⟨same_new nD, upd_same⟩ (fun _ _ _ _ => trivial) (fun i v H1 H2 hi hP hy => ?_) (fun H1 hP => ?_)
      · obtain ⟨rfl, c, hc, rfl⟩ := hy
        obtain ⟨sm, hD⟩ := hP
        refine ⟨rfl, ?_⟩
        refine yes_go ?_
        refine ⟨_, rfl, c, LET, rfl, rfl, _, hD, ?_, ?_, ?_⟩
        · rw [List.length_map, List.length_take, List.length_map]
          have : x.cps.toList.length = x.length := rfl
          exact small1000 (by omega)
        · exact fun b o e => by
            rw [upd_ne (ne_of_none e nD)]
            exact sm _ _ e
        · rw [upd_same, List.take_add_one, List.map_append]
          have e : (x.cps.toList.map fun c => decide (c ∈ LET.cps.toList))[i]? = some (decide (c ∈ LET.cps.toList)) := by
            rw [List.getElem?_map, Array.getElem?_toList, hc]
            rfl
          rw [e]
          rfl
      · obtain ⟨sm, hD⟩ := hP
        refine ⟨D, x.cps.toList.map fun c => decide (c ∈ LET.cps.toList), rfl, ?_, ?_⟩
        · refine SqL.of ?_
          rw [hD, List.take_of_length_le (by rw [List.length_map]; exact Nat.le_refl _)]
        · have e : ((x.cps.toList.map fun c => decide (c ∈ LET.cps.toList)).all id) = rowD (.str x) := by
            rw [List.all_map]
            rfl
          rw [e]
          exact q _ sm
    · have e1 : isS d = false := by
        cases d <;> first | rfl | exact absurd rfl (hn _)
      have e2 : rowD d = false := by
        cases d <;> first | rfl | exact absurd rfl (hn _)
      rw [e1]
      refine iteF ?_
      have z := q H (Same.refl H)
      rw [e2] at z
      exact z
theorem qeq {Q : VK} {a b : Bool} {H : Hp} (h : Q (.bl a) H) (e : a = b) : Q (.bl b) H := e ▸ h
theorem row_no {d : PyData} (hn : ∀ x, d ≠ .str x) : rowD d = false := by
  cases d <;> first | rfl | exact absurd rfl (hn _)
theorem name_no {d : PyData} (hn : ∀ x, d ≠ .str x) : nameD d = false := by
  cases d <;> first | rfl | exact absurd rfl (hn _)
theorem text_no {d : PyData} (hn : ∀ x, d ≠ .str x) : textD d = false := by
  cases d <;> first | rfl | exact absurd rfl (hn _)
theorem isS_no {d : PyData} (hn : ∀ x, d ≠ .str x) : isS d = false := by
  cases d <;> first | rfl | exact absurd rfl (hn _)
theorem dle {a b : Nat} : decide ((a : Int) ≤ (b : Int)) = decide (a ≤ b) := by
  by_cases h : a ≤ b
  · rw [decide_eq_true h, decide_eq_true (by omega)]
  · rw [decide_eq_false h, decide_eq_false (by omega)]
-- 4 is_name
abbrev s_is_name : Stmt := top 7
theorem sc_is_name : FnScope ["value"] ["value"] (defScope s_is_name) := ⟨rfl, rfl, rfl, by decide +kernel, rfl, by decide +kernel, by decide +kernel⟩
theorem g_is_name (T : Txt mg) (p : Pl K mg "is_name" s_is_name ["value"] f fd) (D_is_letter_row : Dfo P w K mg base 1 "is_letter_row" ["value"] (spD rowD)) : FnOk P w K mg base CX0 2 f fd ["value"] (spD nameD) := by
  have S := sc_is_name
  refine (p.F.ok S (fun vs H Q E h => ?_) (fun cdv A out s H vs Q E hr h => ?_))
  · obtain ⟨v, d, rfl, _⟩ := h
    rfl
  · obtain ⟨v, d, rfl, hd, hk, q⟩ := h
    refine ⟨_, (pss_one (ps_ret (pe_and (po_call D_is_letter_row (hr.mono (by decide)) (by rfl) (pa_cons (pv 0) pa_nil)) (pe_one (pe_chain op_le op_le pe_int (pe_callB call_len_str (by rfl) T.b_len (by decide +kernel) (pa_cons (pv 0) pa_nil)) (pe_gs T.g_LONGEST_NAME (by rfl))))))), ?_⟩
    refine ⟨v, rfl, v, d, rfl, hd, hk, fun H1 s1 => ⟨_, rfl, ?_⟩⟩
    have q1 := q H1 s1
    rcases isstr hd with ⟨x, rfl, rfl⟩ | hn
    · have hx := hk x rfl
      refine ite2 (fun e => ?_) (fun e => ?_)
      · have e' : letB x = true := e
        refine ⟨_, rfl, x, rfl, Nat.le_of_lt (small1000 hx), _, _, rfl, rfl, _, rfl, ite2 (fun e1 => ⟨_, _, rfl, rfl, ?_⟩) (fun e1 => ?_)⟩
        · have e2 := of_decide_eq_true e1
          refine qeq q1 ?_
          show (letB x && (decide (1 ≤ x.length) && decide (x.length ≤ 8))) = decide ((x.length : Int) ≤ 8)
          rw [e', decide_eq_true (by omega : 1 ≤ x.length), Bool.true_and, Bool.true_and]
          exact dle.symm
        · have e2 : ¬ (1 : Int) ≤ x.length := fun z => e1 (decide_eq_true z)
          refine qeq q1 ?_
          show (letB x && (decide (1 ≤ x.length) && decide (x.length ≤ 8))) = false
          rw [decide_eq_false (by omega : ¬ 1 ≤ x.length), Bool.false_and, Bool.and_false]
      · have e' : letB x = false := by
          have z : rowD (.str x) = false := by simpa using e
          exact z
        refine qeq q1 ?_
        show (letB x && _) = false
        rw [e', Bool.false_and]
    · rw [row_no hn]
      refine iteF (qeq q1 (name_no hn))
theorem ok_is_name (T : Txt mg) (p : Pl K mg "is_name" s_is_name ["value"] f fd) (D_is_letter_row : Dfo P w K mg base 1 "is_letter_row" ["value"] (spD rowD)) : Dfo P w K mg base 2 "is_name" ["value"] (spD nameD) := plo p (g_is_name T p D_is_letter_row)
end

/-! ### rows of names -/
theorem same_seqT {K : PySem.W.Frag} {H H' : Hp} {a : Addr} {xs : List V} (s : Same H H') (h : SqT K H a xs) : SqT K H' a xs := h.imp (rd_same s) id
def isT : PyData → Bool
  | .tuple _ => true
  | _ => false
theorem tup_ty (d : PyData) : kitB (tyD d) "tuple" = some (isT d) := by
  cases d with
  | none  => exact (by decide +kernel : kitB "NoneType" "tuple" = some false)
  | bool _ => exact (by decide +kernel : kitB "bool" "tuple" = some false)
  | int _ => exact (by decide +kernel : kitB "int" "tuple" = some false)
  | str _ => exact (by decide +kernel : kitB "str" "tuple" = some false)
  | list _ => exact (by decide +kernel : kitB "list" "tuple" = some false)
  | tuple _ => exact (by decide +kernel : kitB "tuple" "tuple" = some true)
  | dict _ => exact (by decide +kernel : kitB "dict" "tuple" = some false)
def nrowD : PyData → Bool
  | .tuple ds => ds.all nameD
  | _ => false
def okR (d : PyData) : Prop := ∀ ds, d = .tuple ds → ds.length ≤ 1000 ∧ ∀ e ∈ ds, okD e
def spR : Sp := fun vs H Q _ => ∃ v d, vs = [v] ∧ Dx H v d ∧ okR d ∧ ∀ H', Same H H' → Q (.bl (nrowD d)) H'
theorem DxA.at_ {H : Hp} {x : V} : ∀ (vs : List V) (ds : List PyData) (i : Nat), DxA H vs ds → vs[i]? = some x → ∃ e, ds[i]? = some e ∧ Dx H x e
  | [], _, _, _, h => by cases h
  | v :: vs, ds, i, g, h => by
    cases g with
    | cons a r =>
      cases i with
      | zero =>
        cases h
        exact ⟨_, rfl, a⟩
      | succ i => exact DxA.at_ vs _ i r h
theorem DxA.len {H : Hp} : ∀ {vs : List V} {ds : List PyData}, DxA H vs ds → vs.length = ds.length
  | _, _, .nil => rfl
  | _, _, .cons _ r => by rw [List.length_cons, List.length_cons, DxA.len r]
section
variable {P : Program} {w : World} {K : PySem.W.Frag} {mg : Str → Option Value} {base : Heap} {f : Addr} {fd : FuncData}
abbrev s_is_name_row : Stmt := top 11
theorem sc_is_name_row : FnScope ["value", "name"] ["value"] (defScope s_is_name_row) := ⟨rfl, rfl, rfl, by decide +kernel, rfl, by decide +kernel, by decide +kernel⟩
theorem ok_is_name_row (T : Txt mg) (p : Pl K mg "is_name_row" s_is_name_row ["value"] f fd) (D_is_name : Dfo P w K mg base 2 "is_name" ["value"] (spD nameD)) : Dfo P w K mg base 3 "is_name_row" ["value"] spR := by
  have S := sc_is_name_row
  refine plo p (p.F.ok S (fun vs H Q E h => ?_) (fun cdv A out s H vs Q E hr h => ?_))
  · obtain ⟨v, d, rfl, _⟩ := h
    rfl
  · obtain ⟨v, d, rfl, hd, hk, q⟩ := h
    refine ⟨_, (pss_one (ps_ret (pe_and (pe_callB call_isD (by rfl) T.b_isinstance (by decide +kernel) (pa_cons (pv 0) (pa_cons (pe_bltn (v := .ty "tuple") (by rfl) T.b_tuple (by decide +kernel) rfl) pa_nil))) (pe_one (pe_callB (cr_all rfl) (by rfl) T.b_all (by decide +kernel) (pa_cons (pe_lc (own := [("name", 1)]) rfl S.nd (pi_tup (pv 0)) (blkOk_by (own := [("name", 1)]) (N := ["value", "name"]) (sc := defScope s_is_name_row) (by decide +kernel)) (fun _ _ _ _ _ => (pg_name (i := 1) S.nd rfl (.inl rfl))) (fun _ _ _ _ _ => pts_nil) (fun _ _ _ _ _ => (po_call D_is_name (hr.mono (by decide)) (by rfl) (pa_cons (pv 1) pa_nil)))) pa_nil)))))), ?_⟩
    refine ⟨v, rfl, _, v, d, _, rfl, hd, tup_ty d, _, rfl, ?_⟩
    have q0 := q H (Same.refl H)
    cases hd with
    | @tup a xs ds ra hxs =>
      obtain ⟨hl, hok⟩ := hk ds rfl
      have sq : SqT K H a xs := .inl ra
      refine iteT ⟨_, rfl, a, rfl, ⟨xs, sq⟩, fun D nD => ?_⟩
      refine lc_it walk_tup (fun i H' => Same H H' ∧ H' D = some (.lst (((ds.map nameD).take i).map V.bl))) ⟨same_new nD, upd_same⟩ (fun _ H' _ hP => same_seqT hP.1 sq) (fun i v H1 H2 hi hP hy => ?_) (fun H1 hP => ?_)
      · obtain ⟨rfl, hx⟩ := hy
        obtain ⟨sm, hD⟩ := hP
        obtain ⟨e, he, dx⟩ := DxA.at_ _ _ _ hxs hx
        refine ⟨rfl, yes_go ?_⟩
        refine ⟨_, rfl, _, e, rfl, dx.mono sm, hok e (List.mem_of_getElem? he), fun H3 s3 => ?_⟩
        refine ⟨_, s3 _ _ hD, ?_, ?_, ?_⟩
        · rw [List.length_map, List.length_take, List.length_map]
          exact small1000 (by omega)
        · exact ExB.put.same nD (sm.trans s3)
        · rw [upd_same, List.take_add_one, List.map_append]
          have z : (ds.map nameD)[i]? = some (nameD e) := by
            rw [List.getElem?_map, he]
            rfl
          rw [z]
          rfl
      · obtain ⟨sm, hD⟩ := hP
        refine ⟨D, ds.map nameD, rfl, SqL.of ?_, ?_⟩
        · rw [hD, DxA.len hxs, List.take_of_length_le (by rw [List.length_map]; exact Nat.le_refl _)]
        · have z : ((ds.map nameD).all id) = nrowD (.tuple ds) := by
            rw [List.all_map]
            rfl
          rw [z]
          exact q _ sm
    | _ => exact iteF q0
/-! ### one path begins with another one -/
theorem eqv_strs : ∀ k l : List Str, PyData.eqvAll (k.map PyData.str) (l.map PyData.str) = decide (k = l)
  | [], [] => rfl
  | [], _ :: _ => rfl
  | _ :: _, [] => rfl
  | x :: k, y :: l => by
    show (x == y && PyData.eqvAll (k.map PyData.str) (l.map PyData.str)) = decide (x :: k = y :: l)
    rw [eqv_strs k l]
    by_cases h : x = y
    · subst h
      rw [beq_self_eq_true, Bool.true_and]
      exact decide_eq_decide.mpr ⟨fun z => by rw [z], fun z => (List.cons.inj z).2⟩
    · rw [beq_eq_false_iff_ne.mpr h, Bool.false_and]
      exact (decide_eq_false (fun z => h (List.cons.inj z).1)).symm
theorem shaped_strs (k : List Str) (hk : ∀ x ∈ k, PyData.strOk x = true) : SeqAt.shaped (.tuple (k.map PyData.str)) = true := by
  have h1 : ∀ k : List Str, (∀ x ∈ k, PyData.strOk x = true) → PyData.canLayAll0 (k.map PyData.str) = true := fun l => by
    induction l with
    | nil => exact fun _ => rfl
    | cons c l ih =>
      intro z
      have a := ih fun x hx => z x (List.mem_cons_of_mem _ hx)
      have b := z c List.mem_cons_self
      simp only [List.map_cons, PyData.canLayAll0, PyData.canLay0, a, b, Bool.and_true]
  have h2 : ∀ l : List Str, PyData.depthAll (l.map PyData.str) ≤ 1 := fun l => by
    induction l with
    | nil => simp [PyData.depthAll]
    | cons c l ih => simp [PyData.depthAll, PyData.depth] <;> omega
  unfold SeqAt.shaped
  rw [Bool.and_eq_true]
  refine ⟨by simpa [PyData.canLay0] using h1 k hk, decide_eq_true ?_⟩
  have := h2 k
  simp only [PyData.depth]
  omega
theorem dpAll_strs {K : PySem.W.Frag} {H : Hp} : ∀ k : List Str, DpAll K H (k.map V.str) (k.map PyData.str)
  | [] => .nil
  | x :: k => .cons (.str x) (dpAll_strs k)
def okN (k : List Str) : Prop := okK k ∧ ∀ x ∈ k, nameD (.str x) = true ∧ x.length ≤ 1000
theorem LET_high : ∀ c ∈ LET.cps.toList, 46 < c := by decide +kernel
theorem nmS_of {x : Str} (h : nameD (.str x) = true) : nmS x ∧ x.length ≤ 8 := by
  have h : (letB x && (decide (1 ≤ x.length) && decide (x.length ≤ 8))) = true := h
  rw [Bool.and_eq_true, Bool.and_eq_true] at h
  obtain ⟨h1, h2, h3⟩ := h
  have h2 := of_decide_eq_true h2
  refine ⟨⟨fun z => ?_, fun c hc => ?_⟩, of_decide_eq_true h3⟩
  · have e : x.length = x.cps.toList.length := (Array.length_toList (xs := x.cps)).symm
    have z : x.cps.toList = [] := z
    rw [z] at e
    rw [e] at h2
    exact absurd h2 (by decide)
  · exact LET_high c (of_decide_eq_true (List.all_eq_true.mp h1 c hc))
theorem okN.nm {k : List Str} (h : okN k) : k ≠ [] ∧ ∀ x ∈ k, nmS x := ⟨h.1.1, fun x hx => (nmS_of (h.2 x hx).1).1⟩
theorem sum8 {k : List Str} (h : ∀ x ∈ k, x.length ≤ 8) : (k.map (·.length)).sum ≤ 8 * k.length := by
  induction k with
  | nil => exact Nat.le_refl _
  | cons x k ih =>
    have := ih fun y hy => h y (List.mem_cons_of_mem _ hy)
    have := h x List.mem_cons_self
    rw [List.map_cons, List.sum_cons, List.length_cons]
    omega
theorem okN.sum {k : List Str} (h : okN k) : (k.map (·.length)).sum ≤ 8 * k.length := sum8 fun x hx => (nmS_of (h.2 x hx).1).2
theorem jn_len {k : List Str} (h : okN k) : (jn k).length ≤ 9 * k.length := by
  have z := StrLaws.join_length_le dot k
  have y := h.sum
  have d : dot.length = 1 := by decide +kernel
  rw [d] at z
  rw [jn_join]
  omega
def mpD : PyData → Bool
  | .tuple (e :: ds) => (e :: ds).all nameD
  | _ => false
def spM : Sp := fun vs H Q _ => ∃ v d, vs = [v] ∧ Dx H v d ∧ okR d ∧ ∀ H', Same H H' → Q (.bl (mpD d)) H'
abbrev s_is_mask_path : Stmt := top 13
theorem sc_is_mask_path : FnScope ["value"] ["value"] (defScope s_is_mask_path) := ⟨rfl, rfl, rfl, by decide +kernel, rfl, by decide +kernel, by decide +kernel⟩
theorem ok_is_mask_path (T : Txt mg) (p : Pl K mg "is_mask_path" s_is_mask_path ["value"] f fd) (D_is_name_row : Dfo P w K mg base 3 "is_name_row" ["value"] spR) : Dfo P w K mg base 4 "is_mask_path" ["value"] spM := by
  have S := sc_is_mask_path
  refine plo p (p.F.ok S (fun vs H Q E h => ?_) (fun cdv A out s H vs Q E hr h => ?_))
  · obtain ⟨v, d, rfl, _⟩ := h
    rfl
  · obtain ⟨v, d, rfl, hd, hk, q⟩ := h
    refine ⟨_, (pss_one (ps_ret (pe_and (po_call D_is_name_row (hr.mono (by decide)) (by rfl) (pa_cons (pv 0) pa_nil)) (pe_one (pe_cmpR op_gt (pe_callB call_len_seq (by rfl) T.b_len (by decide +kernel) (pa_cons (pv 0) pa_nil)) pe_int (nomark _)))))), ?_⟩
    refine ⟨v, rfl, v, d, rfl, hd, hk, fun H1 s1 => ⟨_, rfl, ?_⟩⟩
    have q0 := q H1 s1
    cases hd with
    | @tup a xs ds ra hxs =>
      cases hb : nrowD (.tuple ds) with
      | false =>
        have z : mpD (.tuple ds) = false := by
          cases ds with
          | nil => rfl
          | cons e ds => exact hb
        rw [z] at q0
        exact iteF q0
      | true =>
        refine iteT ⟨_, rfl, a, xs, rfl, .inr (same_seqT s1 (.inl ra)), _, _, rfl, rfl, ?_⟩
        have z : mpD (.tuple ds) = decide ((0 : Int) < (xs.length : Int)) := by
          rw [DxA.len hxs]
          cases ds with
          | nil => rfl
          | cons e ds =>
            have y : decide ((0 : Int) < (((e :: ds).length : Nat) : Int)) = true := decide_eq_true (by rw [List.length_cons]; omega)
            rw [y]
            exact hb
        rw [z] at q0
        exact q0
    | _ => exact iteF q0
/-! ### paths in order, by the texts that they are joined to -/
def entT (k : List Str) : List L2.Key × V := (k.map Sum.inr, .bl true)
theorem kV_strs (k : List Str) : (k.map (Sum.inr : Str → L2.Key)).map kV = k.map V.str := by
  rw [List.map_map]
  rfl
theorem inr_inj : ∀ {k l : List Str}, k.map (Sum.inr : Str → L2.Key) = l.map Sum.inr → k = l
  | [], [], _ => rfl
  | [], _ :: _, h => by cases h
  | _ :: _, [], h => by cases h
  | x :: k, y :: l, h => by
    injection h with h1 h2
    injection h1 with h1
    rw [h1, inr_inj h2]
theorem ent_in (ks : List (List Str)) (k : List Str) : (valV (ks.map entT) (k.map Sum.inr)).isSome = decide (k ∈ ks) := by
  rw [← valV_any, List.any_map, Bool.eq_iff_iff, List.any_eq_true, decide_eq_true_eq]
  constructor
  · rintro ⟨l, hl, h⟩
    rw [← inr_inj (of_decide_eq_true h)]
    exact hl
  · exact fun h => ⟨k, h, decide_eq_true rfl⟩
theorem ent_put (ks : List (List Str)) (k : List Str) : putK (ks.map entT) (k.map Sum.inr) (.bl true) = (adK ks k).map entT := by
  unfold adK
  have e := ent_in ks k
  rw [← valV_any] at e
  unfold putK
  by_cases h : k ∈ ks
  · rw [if_pos h, if_pos (e.trans (decide_eq_true h)), List.map_map]
    refine List.map_congr_left fun l hl => ?_
    show (if (entT l).1 = k.map Sum.inr then ((entT l).1, V.bl true) else entT l) = entT l
    split
    · rfl
    · rfl
  · rw [if_neg h, if_neg (by rw [e, decide_eq_false h]; exact Bool.false_ne_true), List.map_append]
    rfl
def spSrt : Sp := fun vs H Q _ => ∃ (d : Addr) (ks : List (List Str)), vs = [.ref d] ∧ H d = some (.dT (ks.map entT)) ∧ ks.length < 64 ∧ (∀ k ∈ ks, okN k) ∧
  ∀ H' l ws zs, Same H H' → H l = none → H' l = some (.lst ws) → PthA H' ws zs → zs.Perm ks → SrtP zs → Q (.ref l) H'
abbrev s_sorted_paths : Stmt := top 9
theorem sc_sorted_paths : FnScope ["paths", "text", "path"] ["paths"] (defScope s_sorted_paths) := ⟨rfl, rfl, rfl, by decide +kernel, rfl, by decide +kernel, by decide +kernel⟩
theorem ok_sorted_paths (T : Txt mg) (p : Pl K mg "sorted_paths" s_sorted_paths ["paths"] f fd) : Dfo P w K mg base 1 "sorted_paths" ["paths"] spSrt := by
  have S := sc_sorted_paths
  refine plo p (p.F.ok S (fun vs H Q E h => ?_) (fun cdv A out s H vs Q E hr h => ?_))
  · obtain ⟨d, ks, rfl, _⟩ := h
    rfl
  · obtain ⟨d, ks, rfl, hd, hl, hok, q⟩ := h
    refine ⟨_, (pss_one (ps_ret (pe_lc (own := [("text", 1)]) rfl S.nd (pi_list (pe_callB cr_sortedS (by rfl) T.b_sorted (by decide +kernel) (pa_cons (pe_lock (pe_lc (own := [("path", 2)]) rfl S.nd (pi_keys (pv 0)) (blkOk_by (own := [("path", 2)]) (N := ["paths", "text", "path"]) (sc := defScope s_sorted_paths) (by decide +kernel)) (fun _ _ _ _ _ => (pg_name (i := 2) S.nd rfl (.inl rfl))) (fun _ _ _ _ _ => pts_nil) (fun _ _ _ _ _ => (pe_callTy SkE.call_str_str (by rfl) T.b_str (by decide +kernel) (pa_cons (pe_joinK (K := K) rfl pe_str (pv 2)) pa_nil))))) pa_nil))) (blkOk_by (own := [("text", 1)]) (N := ["paths", "text", "path"]) (sc := defScope s_sorted_paths) (by decide +kernel)) (fun _ _ _ _ _ => (pg_name (i := 1) S.nd rfl (.inl rfl))) (fun _ _ _ _ _ => pts_nil) (fun _ _ _ _ _ => (pe_callTy (call_tupleK (K := K) rfl) (by rfl) T.b_tuple (by decide +kernel) (pa_cons (pe_split (pv 1) pe_str) pa_nil)))))), ?_⟩
    refine ⟨d, _, hd, trivial, fun od => ?_⟩
    refine ⟨_, rfl, d, od, rfl, .inr ⟨_, upd_same, fun D nD => ?_⟩⟩
    have Dd : D ≠ d := fun z => by
      rw [z, upd_same] at nD
      cases nD
    refine lc_it walk_keysT (fun i H' => Same (upd H d (.frz od (.dT (ks.map entT)))) H' ∧ H' D = some (.lst (((ks.map jn).take i).map V.str))) ⟨same_new nD, upd_same⟩ (fun _ H' _ hP => hP.1 _ _ upd_same) (fun i x H1 H2 hi hP hy => ?_) (fun H1 hP => ?_)
    · obtain ⟨sm, hD⟩ := hP
      obtain ⟨rfl, k, v, t, hk, rfl, ht⟩ := hy
      rw [List.getElem?_map] at hk
      obtain ⟨l, hl1, hl2⟩ := Option.map_eq_some_iff.mp hk
      obtain rfl : l.map Sum.inr = k := congrArg Prod.fst hl2
      rw [kV_strs] at ht
      have ok := hok l (List.mem_of_getElem? hl1)
      refine ⟨rfl, yes_go ?_⟩
      refine ⟨⟨_, rfl⟩, _, rfl, _, t, l, rfl, rfl, .inr (SqT.of ht), ?_, _, rfl, ?_⟩
      · have := ok.sum
        have := ok.1.2.1
        have e : (Str.ofString ".").length = 1 := by decide +kernel
        rw [e]
        omega
      refine ⟨_, hD, ?_, ExB.put.same nD sm, ?_⟩
      · rw [List.length_map, List.length_take, List.length_map]
        exact small1000 (by omega)
      · rw [upd_same, List.take_add_one, List.map_append]
        have z : (ks.map jn)[i]? = some (jn l) := by
          rw [List.getElem?_map, hl1]
          rfl
        rw [z]
        rfl
    · obtain ⟨sm, hD⟩ := hP
      rw [List.length_map, List.take_of_length_le (by rw [List.length_map]; exact Nat.le_refl _)] at hD
      have s1 : Same H (upd H1 d (.dT (ks.map entT))) := fun b o e => by
        by_cases z : b = d
        · rw [z] at e ⊢
          rw [upd_same, ← e, hd]
        · rw [upd_ne z]
          exact sm b o (by rw [upd_ne z]; exact e)
      refine ⟨sm _ _ upd_same, D, ks.map jn, rfl, SqL.of (by rw [upd_ne Dd]; exact hD), by rw [List.length_map]; exact hl, fun ys p pm so np => ?_⟩
      obtain ⟨zs, rfl, pz, sz, _⟩ := jn_sorted (fun k hk => (hok k hk).nm) pm so
      have s2 := same_new (o := .lst ((zs.map jn).map V.str)) np
      have ep : upd (upd H1 d (.dT (ks.map entT))) p (.lst ((zs.map jn).map V.str)) p = some (.lst ((zs.map jn).map V.str)) := upd_same
      have s3 := s1.trans s2
      generalize upd (upd H1 d (.dT (ks.map entT))) p (.lst ((zs.map jn).map V.str)) = H2 at s2 ep s3 ⊢
      have okz : ∀ k ∈ zs, okN k := fun k hk => hok k (pz.mem_iff.mp hk)
      have lz : zs.length < 64 := by rw [pz.length_eq]; exact hl
      refine ⟨p, rfl, ⟨_, SqL.of ep⟩, fun D2 nD2 => ?_⟩
      refine lc_list (xs := (zs.map jn).map V.str) (fun i H' => Same H2 H' ∧ ∃ ws, H' D2 = some (.lst ws) ∧ PthA H' ws (zs.take i)) ⟨same_new nD2, [], upd_same, .nil⟩ (fun i H' _ hP => SqL.of (hP.1 _ _ ep)) (fun i v H3 hv hP => ?_) (fun H3 hP => ?_)
      · obtain ⟨s4, ws, hD2, hw⟩ := hP
        rw [List.getElem?_map, List.getElem?_map] at hv
        obtain ⟨y, hy1, rfl⟩ := Option.map_eq_some_iff.mp hv
        obtain ⟨z, hz, rfl⟩ := Option.map_eq_some_iff.mp hy1
        have ok := okz z (List.mem_of_getElem? hz)
        refine ⟨rfl, yes_go ?_⟩
        refine ⟨_, rfl, ⟨_, rfl⟩, jn z, dot, rfl, rfl, by decide +kernel, ?_, ?_⟩
        · have := jn_len ok
          have := ok.1.2.1
          rw [sizeLine_eq]
          omega
        rw [split_jn ok.nm.1 ok.nm.2]
        refine fun q nq => ⟨q, _, rfl, .inl ⟨SqL.of upd_same, fun t nt => ?_⟩⟩
        have s5 := same_new (o := .lst (z.map V.str)) nq
        have s6 := same_new (o := .tup (z.map V.str)) nt
        have hD3 := s6 _ _ (s5 _ _ hD2)
        refine ⟨_, hD3, ?_, ?_, _, upd_same, ?_⟩
        · rw [hw.len, List.length_take]
          exact small1000 (by omega)
        · exact ExB.put.same nD2 (s4.trans (s5.trans s6))
        · rw [List.take_add_one, hz]
          exact ((hw.mono (s5.trans s6)).snoc upd_same).exb ExB.put hD3 (fun ys z => by cases z)
      · obtain ⟨s4, ws, hD2, hw⟩ := hP
        rw [List.length_map, List.length_map, List.take_length] at hw
        exact q H3 D2 ws zs (s3.trans s4) (Same.free' s3 nD2) hD2 hw pz sz
def spFr : Sp := fun vs H Q _ => ∃ (t d : Addr) (k : List Str) (ks : List (List Str)), vs = [.ref t, .ref d] ∧ H t = some (.tup (k.map V.str)) ∧ H d = some (.dT (ks.map entT)) ∧ k.length ≤ 1000 ∧ (∀ l ∈ ks, l ≠ []) ∧ ∀ H', Same H H' → Q (.bl (cov ks k)) H'
theorem take_bl {L : List Bool} {i : Nat} {b : Bool} (h : L[i]? = some b) : (L.take (i + 1)).map V.bl = (L.take i).map V.bl ++ [.bl b] := by
  rw [List.take_add_one, h, List.map_append]
  rfl
/-- the front of a tuple of texts -/
theorem sl_go {K : PySem.W.Frag} {H : Hp} {a : Addr} {k : List Str} {j : Int} {n : Nat} {Q : VK} (h : H a = some (.tup (k.map V.str))) (hn : HT.sIx k.length k.length (some j) = n) (q : ∀ H' b, Same H H' → H' b = some (.tup ((k.take n).map V.str)) → Q (.ref b) H') : rSlA K (.ref a) none (some j) H Q := by
  have len : (k.map V.str).length = k.length := List.length_map _
  refine ⟨a, _, rfl, SqT.of h, fun e => ?_, fun e t nt => ?_⟩
  · rw [len, hn] at e
    refine q H a (Same.refl _) ?_
    rw [e.2, List.take_length]
    exact h
  · have c : cutV (k.map V.str) none (some j) = (k.take n).map V.str := by
      unfold cutV
      rw [len, hn, HT.sIx_none, List.drop_zero, Nat.sub_zero, List.map_take]
    rw [c]
    exact q _ t (same_new nt) upd_same
abbrev s_begins_with_one : Stmt := top 14
theorem sc_begins_with_one : FnScope ["path", "paths", "many"] ["path", "paths"] (defScope s_begins_with_one) := ⟨rfl, rfl, rfl, by decide +kernel, rfl, by decide +kernel, by decide +kernel⟩
theorem ok_begins_with_one (T : Txt mg) (p : Pl K mg "begins_with_one" s_begins_with_one ["path", "paths"] f fd) : Dfo P w K mg base 1 "begins_with_one" ["path", "paths"] spFr := by
  have S := sc_begins_with_one
  refine plo p (p.F.ok S (fun vs H Q E h => ?_) (fun cdv A out s H vs Q E hr h => ?_))
  · obtain ⟨t, d, k, ks, rfl, _⟩ := h
    rfl
  · obtain ⟨t, d, k, ks, rfl, ht, hd, hl, hne, q⟩ := h
    refine ⟨_, (pss_one (ps_ret (pe_callB (cr_any rfl) (by rfl) T.b_any (by decide +kernel) (pa_cons (pe_lc (own := [("many", 2)]) rfl S.nd (pi_range2 (by rfl) T.b_range (pa_cons pe_int (pa_cons (pe_op op_add (pe_callB call_len_seq (by rfl) T.b_len (by decide +kernel) (pa_cons (pv 0) pa_nil)) pe_int) pa_nil))) (blkOk_by (own := [("many", 2)]) (N := ["path", "paths", "many"]) (sc := defScope s_begins_with_one) (by decide +kernel)) (fun _ _ _ _ _ => (pg_name (i := 2) S.nd rfl (.inl rfl))) (fun _ _ _ _ _ => pts_nil) (fun _ _ _ _ _ => (pe_cmp (pc_din (hu_of hr) (pe_slice (sl_tupK (K := K) rfl) (pv 0) po_none (po_some (pv 2))) (pv 1))))) pa_nil)))), ?_⟩
    have len : (((k.map V.str).length : Nat) : Int) = ((k.length : Nat) : Int) := by rw [List.length_map]
    refine ⟨_, rfl, t, _, rfl, .inr (SqT.of ht), _, _, rfl, rfl, ?_⟩
    refine ⟨1, _, rfl, ⟨by decide, by decide, by omega, by omega⟩, fun D nD => ?_⟩
    have hn : ((((k.map V.str).length : Nat) : Int) + 1 - 1).toNat = k.length := by omega
    refine lc_range (lo := 1) (n := ((((k.map V.str).length : Nat) : Int) + 1 - 1).toNat) (fun i H' => Same H H' ∧ H' D = some (.lst ((((List.range k.length).map fun i => decide (k.take (i + 1) ∈ ks)).take i).map V.bl))) ⟨same_new nD, upd_same⟩ (fun i H2 hi hP => ?_) (fun H2 hP => ?_)
    · obtain ⟨sm, hD⟩ := hP
      rw [hn] at hi
      have e1 : (1 : Int) + (i : Int) = ((i + 1 : Nat) : Int) := by omega
      refine ⟨rfl, yes_go ?_⟩
      refine ⟨_, rfl, _, rfl, _, rfl, ?_⟩
      refine sl_go (j := (1 : Int) + (i : Int)) (n := i + 1) (sm _ _ ht) (by rw [e1, HT.sIx_nat, Nat.min_eq_left (by omega)]) (fun H3 b s3 hb => ?_)
      have hb2 : H3 b = some (.tup (((k.take (i + 1)).map (Sum.inr : Str → L2.Key)).map kV)) := by rw [kV_strs]; exact hb
      refine ⟨_, rfl, d, _, rfl, DGet.t (s3 _ _ (sm _ _ hd)) hb2, ?_⟩
      rw [ent_in]
      refine ⟨_, s3 _ _ hD, ?_, ExB.put.same nD (sm.trans s3), ?_⟩
      · rw [List.length_map, List.length_take, List.length_map, List.length_range]
        exact small1000 (by omega)
      · rw [upd_same, take_bl]
        rw [List.getElem?_map, List.getElem?_range hi]
        rfl
    · obtain ⟨sm, hD⟩ := hP
      refine ⟨D, (List.range k.length).map fun i => decide (k.take (i + 1) ∈ ks), rfl, SqL.of ?_, ?_⟩
      · rw [hD, hn, List.take_of_length_le (by rw [List.length_map, List.length_range]; exact Nat.le_refl _)]
      · have z : (((List.range k.length).map fun i => decide (k.take (i + 1) ∈ ks)).any id) = cov ks k := by
          rw [List.any_map]
          exact fronts_cov hne k
        rw [z]
        exact q _ sm
end
end K14
set_option maxHeartbeats 8000000
namespace K14
open PySem PySem.Spec PyProof.Rows L2 Zk Zs Zo Zd
theorem PthA.at_ {H : Hp} {x : V} : ∀ (vs : List V) (ks : List (List Str)) (i : Nat), PthA H vs ks → vs[i]? = some x → ∃ t k, x = .ref t ∧ ks[i]? = some k ∧ H t = some (.tup (k.map V.str))
  | [], _, _, _, h => by cases h
  | v :: vs, ks, i, g, h => by
    cases g with
    | cons a r =>
      cases i with
      | zero =>
        cases h
        exact ⟨_, _, rfl, rfl, a⟩
      | succ i => exact PthA.at_ vs _ i r h
theorem PthA.last {H : Hp} {vs : List V} {ks : List (List Str)} (h : PthA H vs ks) : (vs = [] ∧ ks = []) ∨ ∃ vs' t ks' l, vs = vs' ++ [V.ref t] ∧ ks = ks' ++ [l] ∧ H t = some (.tup (l.map V.str)) := by
  induction h with
  | nil => exact .inl ⟨rfl, rfl⟩
  | @cons t vs k ks a r ih =>
    rcases ih with ⟨rfl, rfl⟩ | ⟨vs', t', ks', l, rfl, rfl, e⟩
    · exact .inr ⟨[], t, [], k, rfl, rfl, a⟩
    · exact .inr ⟨.ref t :: vs', t', k :: ks', l, rfl, rfl, e⟩
theorem filter_take {α : Type} {f : α → Bool} {ks : List α} {i : Nat} {k : α} (h : ks[i]? = some k) : (ks.take (i + 1)).filter f = (ks.take i).filter f ++ (if f k = true then [k] else []) := by
  rw [List.take_add_one, h, List.filter_append]
  congr 1
  by_cases z : f k = true
  · rw [if_pos z]
    show List.filter f [k] = [k]
    rw [List.filter_cons_of_pos z]
    rfl
  · rw [if_neg z]
    show List.filter f [k] = []
    rw [List.filter_cons_of_neg z]
    rfl
theorem sIx_last {n : Nat} (h : 0 < n) : HT.sIx n n (some (-1)) = n - 1 := by
  show (if (-1 : Int) < 0 then ((-1 : Int) + (n : Int)).toNat else min (-1 : Int).toNat n) = n - 1
  rw [if_pos (by decide)]
  omega
/-- {path: True for path in paths}, at its turns -/
theorem dict_of {K : PySem.W.Frag} {H1 : Hp} {D l : Addr} {us : List V} {ks : List (List Str)} {Qd : Hp → Prop} {g : TG} {tt : TT} {tk tv : TE} {sl : List Nat} {σ : L2.St} (nD : H1 D = none) (el : SqL K H1 l us) (hp : PthA H1 us ks) (hl : ks.length ≤ 300)
    (hs : ∀ (t : Addr) (H : Hp) (Go : Hp → Prop), (∃ kvs k b, V.ref t = .ref b ∧ H b = some (.tup (k.map kV)) ∧ H D = some (.dT kvs) ∧ kvs.length < sizeLine ∧ Go (upd H D (.dT (putK kvs k (.bl true))))) → turnT D g tt tk tv sl σ Go (.ref t) H)
    (hd : ∀ H, Same H1 H → H D = some (.dT ((ddK ks).map entT)) → Qd H) : turnsT (Itl K l) D g tt tk tv sl σ H1 Qd := by
  refine dcT_it (walk_list (xs := us)) (fun i H' => Same H1 H' ∧ H' D = some (.dT ((ddK (ks.take i)).map entT))) ⟨same_new nD, upd_same⟩ (fun i H' _ hP => hP.1.seq el) (fun i x H H' hi hP hy => ?_) (fun H hP => ?_)
  · obtain ⟨rfl, hx⟩ := hy
    obtain ⟨sm, hD⟩ := hP
    obtain ⟨t, k, rfl, hk, ht⟩ := PthA.at_ _ _ _ (hp.mono sm) hx
    have ln := dd_len (ks.take i) []
    rw [List.length_take] at ln
    refine hs t _ _ ⟨_, k.map Sum.inr, t, rfl, by rw [kV_strs]; exact ht, hD, ?_, ExB.put.same nD sm, ?_⟩
    · rw [List.length_map]
      refine small1000 ?_
      have z0 : ([] : List (List Str)).length = 0 := rfl
      show ((ks.take i).foldl adK []).length ≤ 1000
      omega
    · rw [upd_same, ent_put, dd_take hk]
  · obtain ⟨sm, hD⟩ := hP
    rw [hp.len, List.take_length] at hD
    exact hd H sm hD
theorem dict_ofT {K : PySem.W.Frag} {H1 : Hp} {D l : Addr} {us : List V} {ks : List (List Str)} {Qd : Hp → Prop} {g : TG} {tt : TT} {tk tv : TE} {sl : List Nat} {σ : L2.St} (nD : H1 D = none) (el : SqT K H1 l us) (hp : PthA H1 us ks) (hl : ks.length ≤ 300)
    (hs : ∀ (t : Addr) (H : Hp) (Go : Hp → Prop), (∃ kvs k b, V.ref t = .ref b ∧ H b = some (.tup (k.map kV)) ∧ H D = some (.dT kvs) ∧ kvs.length < sizeLine ∧ Go (upd H D (.dT (putK kvs k (.bl true))))) → turnT D g tt tk tv sl σ Go (.ref t) H)
    (hd : ∀ H, Same H1 H → H D = some (.dT ((ddK ks).map entT)) → Qd H) : turnsT (Itt K l) D g tt tk tv sl σ H1 Qd := by
  refine dcT_it (walk_tup (xs := us)) (fun i H' => Same H1 H' ∧ H' D = some (.dT ((ddK (ks.take i)).map entT))) ⟨same_new nD, upd_same⟩ (fun i H' _ hP => same_seqT hP.1 el) (fun i x H H' hi hP hy => ?_) (fun H hP => ?_)
  · obtain ⟨rfl, hx⟩ := hy
    obtain ⟨sm, hD⟩ := hP
    obtain ⟨t, k, rfl, hk, ht⟩ := PthA.at_ _ _ _ (hp.mono sm) hx
    have ln := dd_len (ks.take i) []
    rw [List.length_take] at ln
    refine hs t _ _ ⟨_, k.map Sum.inr, t, rfl, by rw [kV_strs]; exact ht, hD, ?_, ExB.put.same nD sm, ?_⟩
    · rw [List.length_map]
      refine small1000 ?_
      have z0 : ([] : List (List Str)).length = 0 := rfl
      show ((ks.take i).foldl adK []).length ≤ 1000
      omega
    · rw [upd_same, ent_put, dd_take hk]
  · obtain ⟨sm, hD⟩ := hP
    rw [hp.len, List.take_length] at hD
    exact hd H sm hD
/-- the least paths of some, handed in as a list or a tuple -/
def spLst (K : PySem.W.Frag) : Sp := fun vs H Q _ => ∃ (p : Addr) (us : List V) (ks : List (List Str)), vs = [.ref p] ∧ (SqL K H p us ∨ SqT K H p us) ∧ PthA H us ks ∧ (∀ k ∈ ks, okN k) ∧ ks.length < 64 ∧
  ∀ H' l ws ls, Same H H' → H l = none → H' l = some (.lst ws) → PthA H' ws (fewL ls) → ls.Perm ks → SrtP ls → Q (.ref l) H'
section
variable {P : Program} {w : World} {K : PySem.W.Frag} {mg : Str → Option Value} {base : Heap} {f : Addr} {fd : FuncData}
abbrev s_least_paths : Stmt := top 15
theorem sc_least_paths : FnScope ["paths", "given", "path"] ["paths"] (defScope s_least_paths) := ⟨rfl, rfl, rfl, by decide +kernel, rfl, by decide +kernel, by decide +kernel⟩
theorem ok_least_paths (T : Txt mg) (p : Pl K mg "least_paths" s_least_paths ["paths"] f fd) (D_sorted_paths : Dfo P w K mg base 1 "sorted_paths" ["paths"] spSrt) (D_begins_with_one : Dfo P w K mg base 1 "begins_with_one" ["path", "paths"] spFr) : Dfo P w K mg base 2 "least_paths" ["paths"] (spLst K) := by
  have S := sc_least_paths
  refine plo p (p.F.ok S (fun vs H Q E h => ?_) (fun cdv A out s H vs Q E hr h => ?_))
  · obtain ⟨p, us, ks, rfl, _⟩ := h
    rfl
  · obtain ⟨p, us, ks, rfl, hS, hp, hok, hl, q⟩ := h
    rcases hS with hS | hS
    ·
      refine ⟨_, (pss_cons (ps_set (i := 1) S.nd rfl (.inr rfl) (pe_dcT (hu_of hr) (own := [("path", 2)]) rfl S.nd (pi_list (pv 0)) (blkOk_by (own := [("path", 2)]) (N := ["paths", "given", "path"]) (sc := defScope s_least_paths) (by decide +kernel)) (fun _ _ _ _ _ => (pg_name (i := 2) S.nd rfl (.inl rfl))) (fun _ _ _ _ _ => pts_nil) (fun _ _ _ _ _ => (pv 2)) (fun _ _ _ _ _ => pe_bl)))
      (pss_one (ps_ret (pe_lc (own := [("path", 2)]) rfl S.nd (pi_list (po_call D_sorted_paths (hr.mono (by decide)) (by rfl) (pa_cons (pv 1) pa_nil))) (blkOk_by (own := [("path", 2)]) (N := ["paths", "given", "path"]) (sc := defScope s_least_paths) (by decide +kernel)) (fun _ _ _ _ _ => (pg_name (i := 2) S.nd rfl (.inl rfl))) (fun _ _ _ _ _ => (pts_one (pt_not (pt_val (po_call D_begins_with_one (hr.mono (by decide)) (by rfl) (pa_cons (pe_slice (sl_tupK (K := K) rfl) (pv 2) po_none (po_some (pe_un un_neg pe_int))) (pa_cons (pv 1) pa_nil))))))) (fun _ _ _ _ _ => (pv 2)))))), ?_⟩
      refine ⟨_, rfl, p, rfl, ⟨us, hS⟩, fun D nD => ?_⟩
      refine dict_of nD hS hp (by omega) (fun t H Go h => ⟨rfl, yes_go ⟨_, rfl, h⟩⟩) (fun H1 sm hD => ?_)
      have dl : (ddK ks).length < 64 := by
        have := dd_len ks []
        have z0 : ([] : List (List Str)).length = 0 := rfl
        show (ks.foldl adK []).length < 64
        omega
      have dm : ∀ k, k ∈ ddK ks ↔ k ∈ ks := fun k => (dd_mem ks []).trans ⟨fun z => z.elim (fun y => (List.not_mem_nil y).elim) id, .inr⟩
      have dn : (ddK ks).Nodup := dd_nodup ks [] List.nodup_nil
      have dok : ∀ k ∈ ddK ks, okN k := fun k hk => hok k ((dm k).mp hk)
      have hne : ∀ k ∈ ddK ks, k ≠ [] := fun k hk => (dok k hk).1.1
      refine ⟨_, rfl, D, ddK ks, rfl, hD, dl, dok, fun H2 l ws zs s2 nl el hw pz sz => ?_⟩
      refine ⟨l, rfl, ⟨_, SqL.of el⟩, fun D2 nD2 => ?_⟩
      have zl := pz.length_eq
      refine lc_list (xs := ws) (fun i H' => Same H2 H' ∧ ∃ vs, H' D2 = some (.lst vs) ∧ PthA H' vs ((zs.take i).filter fun k => !cov (ddK ks) k.dropLast)) ⟨same_new nD2, [], upd_same, .nil⟩ (fun i H' _ hP => SqL.of (hP.1 _ _ el)) (fun i v H3 hv hP => ?_) (fun H3 hP => ?_)
      · obtain ⟨s3, vs, hD2, hv2⟩ := hP
        obtain ⟨t, k, rfl, hk, ht⟩ := PthA.at_ _ _ _ (hw.mono s3) hv
        have ok := dok k (pz.mem_iff.mp (List.mem_of_getElem? hk))
        have ft := filter_take (f := fun k => !cov (ddK ks) k.dropLast) hk
        have hvl := hv2.len
        have flen := List.length_filter_le (fun k => !cov (ddK ks) k.dropLast) (zs.take i)
        rw [List.length_take] at flen
        have kl := ok.1.2.1
        have kp : 0 < k.length := List.length_pos_iff.mpr ok.1.1
        refine ⟨rfl, ?_⟩
        refine ⟨_, rfl, 1, rfl, _, rfl, ?_⟩
        refine sl_go (j := -1) (n := k.length - 1) ht (sIx_last kp) (fun H4 b s4 hb => ?_)
        rw [← List.dropLast_eq_take] at hb
        refine ⟨_, rfl, b, D, k.dropLast, ddK ks, rfl, hb, s4 _ _ (s3 _ _ (s2 _ _ hD)), by rw [List.length_dropLast]; omega, hne, fun H5 s5 => ⟨_, rfl, ?_⟩⟩
        have s6 := s4.trans s5
        cases hc : cov (ddK ks) k.dropLast with
        | false =>
          rw [hc] at ft
          refine iteT ⟨_, rfl, vs, s6 _ _ hD2, small1000 (by omega), ExB.put.same nD2 (s3.trans s6), _, upd_same, ?_⟩
          rw [ft]
          exact ((hv2.mono s6).snoc (s6 _ _ ht)).exb ExB.put (s6 _ _ hD2) (fun ys z => by cases z)
        | true =>
          rw [hc] at ft
          refine iteF ⟨s3.trans s6, vs, s6 _ _ hD2, ?_⟩
          rw [ft]
          exact (List.append_nil _).symm ▸ hv2.mono s6
      · obtain ⟨s3, vs, hD2, hv2⟩ := hP
        rw [hw.len, List.take_length] at hv2
        obtain ⟨ls, pl, sl⟩ := srt_exists ks
        have fin : leastL (ddK ks) zs = fewL ls := least_few dm pz dn sz hne pl sl
        have nD0 := Same.free' sm (Same.free' s2 nD2)
        exact q H3 D2 vs ls (sm.trans (s2.trans s3)) nD0 hD2 (fin ▸ hv2) pl sl
    ·
      refine ⟨_, (pss_cons (ps_set (i := 1) S.nd rfl (.inr rfl) (pe_dcT (hu_of hr) (own := [("path", 2)]) rfl S.nd (pi_tup (pv 0)) (blkOk_by (own := [("path", 2)]) (N := ["paths", "given", "path"]) (sc := defScope s_least_paths) (by decide +kernel)) (fun _ _ _ _ _ => (pg_name (i := 2) S.nd rfl (.inl rfl))) (fun _ _ _ _ _ => pts_nil) (fun _ _ _ _ _ => (pv 2)) (fun _ _ _ _ _ => pe_bl)))
      (pss_one (ps_ret (pe_lc (own := [("path", 2)]) rfl S.nd (pi_list (po_call D_sorted_paths (hr.mono (by decide)) (by rfl) (pa_cons (pv 1) pa_nil))) (blkOk_by (own := [("path", 2)]) (N := ["paths", "given", "path"]) (sc := defScope s_least_paths) (by decide +kernel)) (fun _ _ _ _ _ => (pg_name (i := 2) S.nd rfl (.inl rfl))) (fun _ _ _ _ _ => (pts_one (pt_not (pt_val (po_call D_begins_with_one (hr.mono (by decide)) (by rfl) (pa_cons (pe_slice (sl_tupK (K := K) rfl) (pv 2) po_none (po_some (pe_un un_neg pe_int))) (pa_cons (pv 1) pa_nil))))))) (fun _ _ _ _ _ => (pv 2)))))), ?_⟩
      refine ⟨_, rfl, p, rfl, ⟨us, hS⟩, fun D nD => ?_⟩
      refine dict_ofT nD hS hp (by omega) (fun t H Go h => ⟨rfl, yes_go ⟨_, rfl, h⟩⟩) (fun H1 sm hD => ?_)
      have dl : (ddK ks).length < 64 := by
        have := dd_len ks []
        have z0 : ([] : List (List Str)).length = 0 := rfl
        show (ks.foldl adK []).length < 64
        omega
      have dm : ∀ k, k ∈ ddK ks ↔ k ∈ ks := fun k => (dd_mem ks []).trans ⟨fun z => z.elim (fun y => (List.not_mem_nil y).elim) id, .inr⟩
      have dn : (ddK ks).Nodup := dd_nodup ks [] List.nodup_nil
      have dok : ∀ k ∈ ddK ks, okN k := fun k hk => hok k ((dm k).mp hk)
      have hne : ∀ k ∈ ddK ks, k ≠ [] := fun k hk => (dok k hk).1.1
      refine ⟨_, rfl, D, ddK ks, rfl, hD, dl, dok, fun H2 l ws zs s2 nl el hw pz sz => ?_⟩
      refine ⟨l, rfl, ⟨_, SqL.of el⟩, fun D2 nD2 => ?_⟩
      have zl := pz.length_eq
      refine lc_list (xs := ws) (fun i H' => Same H2 H' ∧ ∃ vs, H' D2 = some (.lst vs) ∧ PthA H' vs ((zs.take i).filter fun k => !cov (ddK ks) k.dropLast)) ⟨same_new nD2, [], upd_same, .nil⟩ (fun i H' _ hP => SqL.of (hP.1 _ _ el)) (fun i v H3 hv hP => ?_) (fun H3 hP => ?_)
      · obtain ⟨s3, vs, hD2, hv2⟩ := hP
        obtain ⟨t, k, rfl, hk, ht⟩ := PthA.at_ _ _ _ (hw.mono s3) hv
        have ok := dok k (pz.mem_iff.mp (List.mem_of_getElem? hk))
        have ft := filter_take (f := fun k => !cov (ddK ks) k.dropLast) hk
        have hvl := hv2.len
        have flen := List.length_filter_le (fun k => !cov (ddK ks) k.dropLast) (zs.take i)
        rw [List.length_take] at flen
        have kl := ok.1.2.1
        have kp : 0 < k.length := List.length_pos_iff.mpr ok.1.1
        refine ⟨rfl, ?_⟩
        refine ⟨_, rfl, 1, rfl, _, rfl, ?_⟩
        refine sl_go (j := -1) (n := k.length - 1) ht (sIx_last kp) (fun H4 b s4 hb => ?_)
        rw [← List.dropLast_eq_take] at hb
        refine ⟨_, rfl, b, D, k.dropLast, ddK ks, rfl, hb, s4 _ _ (s3 _ _ (s2 _ _ hD)), by rw [List.length_dropLast]; omega, hne, fun H5 s5 => ⟨_, rfl, ?_⟩⟩
        have s6 := s4.trans s5
        cases hc : cov (ddK ks) k.dropLast with
        | false =>
          rw [hc] at ft
          refine iteT ⟨_, rfl, vs, s6 _ _ hD2, small1000 (by omega), ExB.put.same nD2 (s3.trans s6), _, upd_same, ?_⟩
          rw [ft]
          exact ((hv2.mono s6).snoc (s6 _ _ ht)).exb ExB.put (s6 _ _ hD2) (fun ys z => by cases z)
        | true =>
          rw [hc] at ft
          refine iteF ⟨s3.trans s6, vs, s6 _ _ hD2, ?_⟩
          rw [ft]
          exact (List.append_nil _).symm ▸ hv2.mono s6
      · obtain ⟨s3, vs, hD2, hv2⟩ := hP
        rw [hw.len, List.take_length] at hv2
        obtain ⟨ls, pl, sl⟩ := srt_exists ks
        have fin : leastL (ddK ks) zs = fewL ls := least_few dm pz dn sz hne pl sl
        have nD0 := Same.free' sm (Same.free' s2 nD2)
        exact q H3 D2 vs ls (sm.trans (s2.trans s3)) nD0 hD2 (fin ▸ hv2) pl sl
end
end K14
set_option maxHeartbeats 8000000
namespace K14
open PySem PySem.Spec PyProof.Rows L2 Zk Zs Zo Zd
theorem fd_ok {P : Program} {w : World} {K : PySem.W.Frag} {mg : Str → Option Value} {base : Heap} {x qual : Str} {st : Stmt} {f : Addr} {fd : FuncData} {N ps : List Str} {k : Nat} {sp : Sp} {dvs : List V} {kws : List (Str × V)} (F : FunD K x qual (defArgs st) (defBody st) (defScope st) dvs kws f fd) (S : FnScope N ps (defScope st)) (len : ∀ vs H Q E, sp vs H Q E → vs.length = ps.length)
    (hb : ∀ (cdv : Value) (A : Around) (outer : List Env) (s : Shared) (H : Hp) (vs : List V) (Q : VK) (E : XK), Room k (A.deeper (envOfC qual (defScope st) s.heap.objs.size f cdv)) → sp vs H Q E →
      ∃ t, PSs (cxOf CX0 P w K mg base N qual (defScope st) f cdv A outer s H E).nox (defBody st) t ∧ t { nx := fun _ H' => Q .non H', rt := Q } (start N vs) H) : FnOk P w K mg base CX0 (k + 1) f fd ps sp :=
  F.ok S len fun cdv A outer s H vs Q E hr h => by
    obtain ⟨t, h, q⟩ := hb cdv A outer s H vs Q E hr h
    exact ⟨t, h.nox, q⟩
/-- a statement that is not reached -/
theorem ps_never {X : Cx} {st : Stmt} : PS X st (fun _ _ _ => False) := ⟨fun _ _ _ _ _ _ h => h.elim⟩
structure Mc (K : PySem.W.Frag) (mg : Str → Option Value) (C : Addr) : Prop where
  cl : Cls K C
  na : NoAttr K C "_rows"
  nc : NoAttr K C "_covered"
  m : mg "Mask" = some (.ref C)
  ha : PySem.W.findIn K (.ref C) "__class__" = some (some (.builtin "object.__class__"))
  hn : PySem.W.specialIn K (.builtin "object.__class__") "__get__" = some (some (.builtin "getset_descriptor.__get__"))
  ht : PySem.W.takesIn K (.builtin "object.__class__") = some true
  hm : PySem.W.mroIn K C (.type "object") = some true
  me : PySem.W.kitOne K (.ref C) (.ref C) = some true
/-- what a mask's instance holds: its paths' list, and the dict of them -/
abbrev mF (l : Addr × Addr) : List (Str × V) := [(("_rows" : Str), V.ref l.1), (("_covered" : Str), V.ref l.2)]
def MaskAt (C : Addr) (H : Hp) (a : Addr) (ks : List (List Str)) : Prop := ∃ dx l vs, H a = some (.ins C dx (mF l)) ∧ H l.1 = some (.lst vs) ∧ H l.2 = some (.dT (ks.map entT)) ∧ PthA H vs ks ∧ (∀ k ∈ ks, okN k) ∧ ks.length ≤ 63
theorem MaskAt.mono {C : Addr} {H H' : Hp} {a : Addr} {ks : List (List Str)} (h : MaskAt C H a ks) (s : Same H H') : MaskAt C H' a ks := by
  obtain ⟨dx, l, vs, e1, e2, e3, p, r⟩ := h
  exact ⟨dx, l, vs, s _ _ e1, s _ _ e2, s _ _ e3, p.mono s, r⟩
def spInit (K : PySem.W.Frag) (C : Addr) : Sp := fun vs H Q _ => ∃ (x dx p : Addr) (us : List V) (ks : List (List Str)), vs = [.ref x, .ref p] ∧ H x = some (.ins C dx []) ∧ (SqL K H p us ∨ SqT K H p us) ∧ PthA H us ks ∧ (∀ k ∈ ks, okN k) ∧ ks.length ≤ 63 ∧
  ∀ H' ls, ExB x H H' → MaskAt C H' x (fewL ls) → (∀ q o, H q = some o → q ≠ x → (∀ ys, o ≠ .tup ys) → MaskAt C (hid q H') x (fewL ls)) → ls.Perm ks → SrtP ls → Q .non H'
theorem dx_row {H : Hp} {t : Addr} {k : List Str} (h : H t = some (.tup (k.map V.str))) : Dx H (.ref t) (.tuple (k.map PyData.str)) := by
  refine .tup (.inl h) ?_
  have z : ∀ k : List Str, DxA H (k.map V.str) (k.map PyData.str) := fun k => by
    induction k with
    | nil => exact .nil
    | cons x k ih => exact .cons (.str x) ih
  exact z k
theorem okR_row {k : List Str} (h : okN k) : okR (.tuple (k.map PyData.str)) := by
  intro ds e
  cases e
  refine ⟨by rw [List.length_map]; exact h.1.2.1, fun e he => ?_⟩
  obtain ⟨x, hx, rfl⟩ := List.mem_map.mp he
  intro y ey
  cases ey
  exact (h.2 x hx).2
theorem mp_row {k : List Str} (h : okN k) : mpD (.tuple (k.map PyData.str)) = true := by
  obtain ⟨⟨h1, _⟩, h2⟩ := h
  cases k with
  | nil => exact absurd rfl h1
  | cons x k =>
    show ((x :: k).map PyData.str).all nameD = true
    rw [List.all_eq_true]
    intro e he
    obtain ⟨y, hy, rfl⟩ := List.mem_map.mp he
    exact (h2 y hy).1
section
variable {P : Program} {w : World} {K : PySem.W.Frag} {mg : Str → Option Value} {base : Heap} {f C : Addr} {fd : FuncData}
abbrev s_Mask_init : Stmt := inClass (top 16) 0
theorem sc_Mask_init : FnScope ["self", "paths", "path"] ["self", "paths"] (defScope s_Mask_init) := ⟨rfl, rfl, rfl, by decide +kernel, rfl, by decide +kernel, by decide +kernel⟩
theorem ok_Mask_init (T : Txt mg) (M : Mc K mg C) {dvs : List V} (F : FunD K "__init__" "Mask.__init__" (defArgs s_Mask_init) (defBody s_Mask_init) (defScope s_Mask_init) dvs [] f fd) (D_is_mask_path : Dfo P w K mg base 4 "is_mask_path" ["value"] spM) (D_least_paths : Dfo P w K mg base 2 "least_paths" ["paths"] (spLst K)) : FnOk P w K mg base CX0 5 f fd ["self", "paths"] (spInit K C) := by
  have S := sc_Mask_init
  refine fd_ok F S (fun vs H Q E h => ?_) (fun cdv A out s H vs Q E hr h => ?_)
  · obtain ⟨x, dx, p, us, ks, rfl, _⟩ := h
    rfl
  · obtain ⟨x, dx, p, us, ks, rfl, hx, hS, hp, hok, hl, q⟩ := h
    rcases hS with hS | hS
    ·
      refine ⟨_, (pss_cons (ps_for PassesOwn.never rfl (pi_list (pv 1)) (pg_name (i := 2) S.nd rfl (.inl rfl))
        (pss_one (ps_if (pt_not (pt_val (po_call D_is_mask_path (hr.mono (by decide)) (by rfl) (pa_cons (pv 2) pa_nil))))
          (pss_one ps_never)
          pss_nil)))
      (pss_cons (ps_fld (pv 0) (po_call D_least_paths (hr.mono (by decide)) (by rfl) (pa_cons (pv 1) pa_nil)) rfl)
      (pss_one (ps_fld (pv 0) (pe_dcT (hu_of hr) (own := [("path", 2)]) rfl S.nd (pi_list (pe_fld (pv 0) rfl)) (blkOk_by (own := [("path", 2)]) (N := ["self", "paths", "path"]) (sc := defScope s_Mask_init) (by decide +kernel)) (fun _ _ _ _ _ => (pg_name (i := 2) S.nd rfl (.inl rfl))) (fun _ _ _ _ _ => pts_nil) (fun _ _ _ _ _ => (pv 2)) (fun _ _ _ _ _ => pe_bl)) rfl)))), ?_⟩
      refine ⟨_, rfl, p, rfl, ⟨us, hS⟩, for_it (walk_list (xs := us)) (fun i σ H' => Same H H' ∧ ∃ y, σ = [some (.ref x), some (.ref p), y]) ⟨Same.refl _, none, rfl⟩ (fun i σ H' _ hP => hP.1.seq hS) (fun i v σ H1 H2 hi hP hy => ?_) (fun σ H2 hP => ?_)⟩
      · obtain ⟨rfl, hv⟩ := hy
        obtain ⟨sm, y, rfl⟩ := hP
        obtain ⟨t, k, rfl, hk, ht⟩ := PthA.at_ _ _ _ (hp.mono sm) hv
        have ok := hok k (List.mem_of_getElem? hk)
        refine ⟨_, rfl, _, _, rfl, dx_row ht, okR_row ok, fun H3 s3 => ⟨_, rfl, ?_⟩⟩
        rw [mp_row ok]
        exact iteF ⟨sm.trans s3, _, rfl⟩
      · obtain ⟨sm, y, rfl⟩ := hP
        refine ⟨_, rfl, p, us, ks, rfl, .inl (sm.seq hS), hp.mono sm, hok, by omega, fun H3 fo ws ls s3 nf hf hw pm so => ?_⟩
        have hx3 := s3 _ _ (sm _ _ hx)
        refine ⟨_, rfl, x, C, dx, [], rfl, hx3, M.cl, M.na, by decide, ?_⟩
        have xx : ExB x H3 (upd H3 x (.ins C dx (putF "_rows" (.ref fo) []))) := ExB.put
        have fx : fo ≠ x := (ne_of_none (sm _ _ hx) nf).symm
        have ln := few_len ls []
        have pl := pm.length_eq
        have z0 : ([] : List (List Str)).length = 0 := rfl
        have o1 : ∀ k ∈ fewL ls, okN k := fun k hk => hok k (pm.mem_iff.mp (fewL_sub hk))
        have o2 : (fewL ls).length ≤ 63 := by
          show (ls.foldl addF []).length ≤ 63
          omega
        have hw4 := hw.exb xx hx3 (fun ys z => by cases z)
        have eA : upd H3 x (.ins C dx (putF "_rows" (.ref fo) [])) x = some (.ins C dx [(("_rows" : Str), V.ref fo)]) := upd_same
        have eF := xx _ _ fx hf
        have big := sm.trans s3
        have x4 : ExB x H (upd H3 x (.ins C dx (putF "_rows" (.ref fo) []))) := (ExB.of big).trans xx
        generalize upd H3 x (.ins C dx (putF "_rows" (.ref fo) [])) = H4 at xx hw4 eA eF x4 ⊢
        -- the dict of them
        refine ⟨_, rfl, x, C, dx, _, _, rfl, eA, M.cl, M.na, rfl, fo, rfl, ⟨_, SqL.of eF⟩, fun D nD => ?_⟩
        refine dict_of nD (SqL.of eF) hw4 (by omega) (fun t H Go h => ⟨rfl, yes_go ⟨_, rfl, h⟩⟩) (fun H5 s5 hD => ?_)
        have nd : (fewL ls).Nodup := (few_canon so).nodup
        rw [dd_id nd] at hD
        have eA5 := s5 _ _ eA
        have eF5 := s5 _ _ eF
        have hw5 := hw4.mono s5
        have Dx : D ≠ x := (ne_of_none eA nD).symm
        refine ⟨_, rfl, x, C, dx, _, rfl, eA5, M.cl, M.nc, (by show 1 < 1000; decide), ?_⟩
        have x6 : ExB x H5 (upd H5 x (.ins C dx (putF "_covered" (.ref D) [(("_rows" : Str), V.ref fo)]))) := ExB.put
        have eA6 : upd H5 x (.ins C dx (putF "_covered" (.ref D) [(("_rows" : Str), V.ref fo)])) x = some (.ins C dx (mF (fo, D))) := upd_same
        have eF6 := x6 _ _ fx eF5
        have eD6 := x6 _ _ Dx hD
        have hw6 := hw5.exb x6 eA5 (fun ys z => by cases z)
        have x7 : ExB x H (upd H5 x (.ins C dx (putF "_covered" (.ref D) [(("_rows" : Str), V.ref fo)]))) := (x4.trans (ExB.of s5)).trans x6
        refine q _ ls x7 ⟨dx, (fo, D), ws, eA6, eF6, eD6, hw6, o1, o2⟩ (fun qa oa ha nx ht => ⟨dx, (fo, D), ws, ?_, ?_, ?_, hw6.imp fun t k e => ?_, o1, o2⟩) pm so
        · rw [hid_ne (fun z => nx z.symm)]
          exact eA6
        · have nq : fo ≠ qa := (ne_of_none (sm _ _ ha) nf).symm
          rw [hid_ne nq]
          exact eF6
        · have nq : D ≠ qa := (ne_of_none (x4 _ _ nx ha) nD).symm
          rw [hid_ne nq]
          exact eD6
        · rw [hid_ne (ne_of e (x7 _ _ nx ha) (fun z => ht _ z.symm))]
          exact e
    ·
      refine ⟨_, (pss_cons (ps_for PassesOwn.never rfl (pi_tup (pv 1)) (pg_name (i := 2) S.nd rfl (.inl rfl))
        (pss_one (ps_if (pt_not (pt_val (po_call D_is_mask_path (hr.mono (by decide)) (by rfl) (pa_cons (pv 2) pa_nil))))
          (pss_one ps_never)
          pss_nil)))
      (pss_cons (ps_fld (pv 0) (po_call D_least_paths (hr.mono (by decide)) (by rfl) (pa_cons (pv 1) pa_nil)) rfl)
      (pss_one (ps_fld (pv 0) (pe_dcT (hu_of hr) (own := [("path", 2)]) rfl S.nd (pi_list (pe_fld (pv 0) rfl)) (blkOk_by (own := [("path", 2)]) (N := ["self", "paths", "path"]) (sc := defScope s_Mask_init) (by decide +kernel)) (fun _ _ _ _ _ => (pg_name (i := 2) S.nd rfl (.inl rfl))) (fun _ _ _ _ _ => pts_nil) (fun _ _ _ _ _ => (pv 2)) (fun _ _ _ _ _ => pe_bl)) rfl)))), ?_⟩
      refine ⟨_, rfl, p, rfl, ⟨us, hS⟩, for_it (walk_tup (xs := us)) (fun i σ H' => Same H H' ∧ ∃ y, σ = [some (.ref x), some (.ref p), y]) ⟨Same.refl _, none, rfl⟩ (fun i σ H' _ hP => same_seqT hP.1 hS) (fun i v σ H1 H2 hi hP hy => ?_) (fun σ H2 hP => ?_)⟩
      · obtain ⟨rfl, hv⟩ := hy
        obtain ⟨sm, y, rfl⟩ := hP
        obtain ⟨t, k, rfl, hk, ht⟩ := PthA.at_ _ _ _ (hp.mono sm) hv
        have ok := hok k (List.mem_of_getElem? hk)
        refine ⟨_, rfl, _, _, rfl, dx_row ht, okR_row ok, fun H3 s3 => ⟨_, rfl, ?_⟩⟩
        rw [mp_row ok]
        exact iteF ⟨sm.trans s3, _, rfl⟩
      · obtain ⟨sm, y, rfl⟩ := hP
        refine ⟨_, rfl, p, us, ks, rfl, .inr (same_seqT sm hS), hp.mono sm, hok, by omega, fun H3 fo ws ls s3 nf hf hw pm so => ?_⟩
        have hx3 := s3 _ _ (sm _ _ hx)
        refine ⟨_, rfl, x, C, dx, [], rfl, hx3, M.cl, M.na, by decide, ?_⟩
        have xx : ExB x H3 (upd H3 x (.ins C dx (putF "_rows" (.ref fo) []))) := ExB.put
        have fx : fo ≠ x := (ne_of_none (sm _ _ hx) nf).symm
        have ln := few_len ls []
        have pl := pm.length_eq
        have z0 : ([] : List (List Str)).length = 0 := rfl
        have o1 : ∀ k ∈ fewL ls, okN k := fun k hk => hok k (pm.mem_iff.mp (fewL_sub hk))
        have o2 : (fewL ls).length ≤ 63 := by
          show (ls.foldl addF []).length ≤ 63
          omega
        have hw4 := hw.exb xx hx3 (fun ys z => by cases z)
        have eA : upd H3 x (.ins C dx (putF "_rows" (.ref fo) [])) x = some (.ins C dx [(("_rows" : Str), V.ref fo)]) := upd_same
        have eF := xx _ _ fx hf
        have big := sm.trans s3
        have x4 : ExB x H (upd H3 x (.ins C dx (putF "_rows" (.ref fo) []))) := (ExB.of big).trans xx
        generalize upd H3 x (.ins C dx (putF "_rows" (.ref fo) [])) = H4 at xx hw4 eA eF x4 ⊢
        -- the dict of them
        refine ⟨_, rfl, x, C, dx, _, _, rfl, eA, M.cl, M.na, rfl, fo, rfl, ⟨_, SqL.of eF⟩, fun D nD => ?_⟩
        refine dict_of nD (SqL.of eF) hw4 (by omega) (fun t H Go h => ⟨rfl, yes_go ⟨_, rfl, h⟩⟩) (fun H5 s5 hD => ?_)
        have nd : (fewL ls).Nodup := (few_canon so).nodup
        rw [dd_id nd] at hD
        have eA5 := s5 _ _ eA
        have eF5 := s5 _ _ eF
        have hw5 := hw4.mono s5
        have Dx : D ≠ x := (ne_of_none eA nD).symm
        refine ⟨_, rfl, x, C, dx, _, rfl, eA5, M.cl, M.nc, (by show 1 < 1000; decide), ?_⟩
        have x6 : ExB x H5 (upd H5 x (.ins C dx (putF "_covered" (.ref D) [(("_rows" : Str), V.ref fo)]))) := ExB.put
        have eA6 : upd H5 x (.ins C dx (putF "_covered" (.ref D) [(("_rows" : Str), V.ref fo)])) x = some (.ins C dx (mF (fo, D))) := upd_same
        have eF6 := x6 _ _ fx eF5
        have eD6 := x6 _ _ Dx hD
        have hw6 := hw5.exb x6 eA5 (fun ys z => by cases z)
        have x7 : ExB x H (upd H5 x (.ins C dx (putF "_covered" (.ref D) [(("_rows" : Str), V.ref fo)]))) := (x4.trans (ExB.of s5)).trans x6
        refine q _ ls x7 ⟨dx, (fo, D), ws, eA6, eF6, eD6, hw6, o1, o2⟩ (fun qa oa ha nx ht => ⟨dx, (fo, D), ws, ?_, ?_, ?_, hw6.imp fun t k e => ?_, o1, o2⟩) pm so
        · rw [hid_ne (fun z => nx z.symm)]
          exact eA6
        · have nq : fo ≠ qa := (ne_of_none (sm _ _ ha) nf).symm
          rw [hid_ne nq]
          exact eF6
        · have nq : D ≠ qa := (ne_of_none (x4 _ _ nx ha) nD).symm
          rw [hid_ne nq]
          exact eD6
        · rw [hid_ne (ne_of e (x7 _ _ nx ha) (fun z => ht _ z.symm))]
          exact e
/-- a path of names, asked -/
def spCon (C : Addr) : Sp := fun vs H Q _ => ∃ (a t : Addr) (ks : List (List Str)) (k : List Str), vs = [.ref a, .ref t] ∧ MaskAt C H a ks ∧ H t = some (.tup (k.map V.str)) ∧ okN k ∧ ∀ H', Same H H' → Q (.bl (cov ks k)) H'
abbrev s_Mask_contains : Stmt := inClass (top 16) 4
theorem sc_Mask_contains : FnScope ["self", "path"] ["self", "path"] (defScope s_Mask_contains) := ⟨rfl, rfl, rfl, by decide +kernel, rfl, by decide +kernel, by decide +kernel⟩
theorem ok_Mask_contains (T : Txt mg) (M : Mc K mg C) (F : Fun K "__contains__" "Mask.__contains__" s_Mask_contains f fd) (D_is_mask_path : Dfo P w K mg base 4 "is_mask_path" ["value"] spM) (D_begins_with_one : Dfo P w K mg base 1 "begins_with_one" ["path", "paths"] spFr) : FnOk P w K mg base CX0 5 f fd ["self", "path"] (spCon C) := by
  have S := sc_Mask_contains
  refine F.ok S (fun vs H Q E h => ?_) (fun cdv A out s H vs Q E hr h => ?_)
  · obtain ⟨a, t, ks, k, rfl, _⟩ := h
    rfl
  · obtain ⟨a, t, ks, k, rfl, ⟨dx, l, us, ea, el, ed, hp, hok, hl⟩, ht, ok, q⟩ := h
    refine ⟨_, (pss_one (ps_ret (pe_and (po_call D_is_mask_path (hr.mono (by decide)) (by rfl) (pa_cons (pv 1) pa_nil)) (pe_one (po_call D_begins_with_one (hr.mono (by decide)) (by rfl) (pa_cons (pv 1) (pa_cons (pe_fld (pv 0) rfl) pa_nil))))))), ?_⟩
    refine ⟨_, rfl, _, _, rfl, dx_row ht, okR_row ok, fun H1 s1 => ⟨_, rfl, ?_⟩⟩
    rw [mp_row ok]
    refine iteT ⟨_, rfl, _, rfl, a, C, dx, _, _, rfl, s1 _ _ ea, M.cl, M.nc, rfl, t, l.2, k, ks, rfl, s1 _ _ ht, s1 _ _ ed, ok.1.2.1, fun l hl => (hok l hl).1.1, fun H2 s2 => q _ (s1.trans s2)⟩
/-- two masks -/
def spEq (C : Addr) : Sp := fun vs H Q _ => ∃ (a b : Addr) (ks ls : List (List Str)), vs = [.ref a, .ref b] ∧ MaskAt C H a ks ∧ MaskAt C H b ls ∧ ∀ H', Same H H' → Q (.bl (decide (ks = ls))) H'
theorem dp_rows {K : PySem.W.Frag} {H : Hp} {vs : List V} {ks : List (List Str)} (h : PthA H vs ks) : DpAll K H vs (ks.map fun k => PyData.tuple (k.map PyData.str)) := by
  induction h with
  | nil => exact .nil
  | cons a _ ih => exact .cons (.tup (SqT.of a) (dpAll_strs _)) ih
theorem eqv_rows : ∀ ks ls : List (List Str), PyData.eqvAll (ks.map fun k => PyData.tuple (k.map PyData.str)) (ls.map fun k => PyData.tuple (k.map PyData.str)) = decide (ks = ls)
  | [], [] => rfl
  | [], _ :: _ => rfl
  | _ :: _, [] => rfl
  | k :: ks, l :: ls => by
    show (PyData.eqvAll (k.map PyData.str) (l.map PyData.str) && PyData.eqvAll (ks.map fun k => PyData.tuple (k.map PyData.str)) (ls.map fun k => PyData.tuple (k.map PyData.str))) = decide (k :: ks = l :: ls)
    rw [eqv_strs, eqv_rows ks ls]
    by_cases h : k = l
    · subst h
      rw [decide_eq_true rfl, Bool.true_and]
      exact decide_eq_decide.mpr ⟨fun z => by rw [z], fun z => (List.cons.inj z).2⟩
    · rw [decide_eq_false h, Bool.false_and]
      exact (decide_eq_false (fun z => h (List.cons.inj z).1)).symm
theorem shaped_rows {ks : List (List Str)} (h : ∀ k ∈ ks, okK k) : SeqAt.shaped (.list (ks.map fun k => PyData.tuple (k.map PyData.str))) = true := by
  have h1 : ∀ ks : List (List Str), (∀ k ∈ ks, okK k) → PyData.canLayAll0 (ks.map fun k => PyData.tuple (k.map PyData.str)) = true := fun ks => by
    induction ks with
    | nil => exact fun _ => rfl
    | cons k ks ih =>
      intro z
      have a := ih fun x hx => z x (List.mem_cons_of_mem _ hx)
      have b := SeqAt.canLay_of_shaped (shaped_strs k (z k List.mem_cons_self).2.2)
      simp only [List.map_cons, PyData.canLayAll0, a, b, Bool.and_true]
  have h3 : ∀ l : List Str, PyData.depthAll (l.map PyData.str) ≤ 1 := fun l => by
    induction l with
    | nil => simp [PyData.depthAll]
    | cons c l ih => simp [PyData.depthAll, PyData.depth] <;> omega
  have h2 : ∀ ks : List (List Str), PyData.depthAll (ks.map fun k => PyData.tuple (k.map PyData.str)) ≤ 2 := fun ks => by
    induction ks with
    | nil => simp [PyData.depthAll]
    | cons k ks ih =>
      have := h3 k
      simp only [List.map_cons, PyData.depthAll, PyData.depth] <;> omega
  unfold SeqAt.shaped
  rw [Bool.and_eq_true]
  refine ⟨by simpa [PyData.canLay0] using h1 ks h, decide_eq_true ?_⟩
  have := h2 ks
  simp only [PyData.depth]
  omega
abbrev s_Mask_eq : Stmt := inClass (top 16) 3
theorem sc_Mask_eq : FnScope ["self", "other"] ["self", "other"] (defScope s_Mask_eq) := ⟨rfl, rfl, rfl, by decide +kernel, rfl, by decide +kernel, by decide +kernel⟩
theorem ok_Mask_eq (T : Txt mg) (M : Mc K mg C) (F : Fun K "__eq__" "Mask.__eq__" s_Mask_eq f fd) : FnOk P w K mg base CX0 1 f fd ["self", "other"] (spEq C) := by
  have S := sc_Mask_eq
  refine F.ok S (fun vs H Q E h => ?_) (fun cdv A out s H vs Q E hr h => ?_)
  · obtain ⟨a, b, ks, ls, rfl, _⟩ := h
    rfl
  · obtain ⟨a, b, ks, ls, rfl, ⟨dx, l, us, ea, el, ed, hp, hok, hl⟩, ⟨dy, m, ws, eb, em, ed2, hw, hok2, hl2⟩, q⟩ := h
    refine ⟨_, (pss_one (ps_ret (pe_and (pe_callB call_isi (by rfl) T.b_isinstance (by decide +kernel) (pa_cons (pv 1) (pa_cons (pe_glob (v := .ref _) rfl M.m rfl) pa_nil))) (pe_one (pe_cmpR (op_eqD hr.units) (pe_fld (pv 0) rfl) (pe_fld (pv 1) rfl) (nomark _)))))), ?_⟩
    refine ⟨_, rfl, _, _, _, _, _, rfl, .own _, .base (TyOf.ins eb M.cl M.ha M.hn M.ht M.hm), M.me, _, rfl, iteT ?_⟩
    refine ⟨_, rfl, a, C, dx, _, _, rfl, ea, M.cl, M.na, rfl, _, rfl, b, C, dy, _, _, rfl, eb, M.cl, M.na, rfl, ?_⟩
    refine ⟨_, _, .lst (SqL.of el) (dp_rows hp), .lst (SqL.of em) (dp_rows hw), shaped_rows (fun k hk => (hok k hk).1), shaped_rows (fun k hk => (hok2 k hk).1), ?_⟩
    have z : PyData.eqv (.list (ks.map fun k => PyData.tuple (k.map PyData.str))) (.list (ls.map fun k => PyData.tuple (k.map PyData.str))) = decide (ks = ls) := eqv_rows ks ls
    rw [z]
    exact q _ (Same.refl _)
end
end K14
set_option maxHeartbeats 8000000
namespace K14
open PySem PySem.Spec PyProof.Rows L2 Zk Zs Zo Zd
/-- the class, as its methods use it -/
structure Mx (P : Program) (w : World) (K : PySem.W.Frag) (mg : Str → Option Value) (base : Heap) (C : Addr) : Prop where
  mkr : ∃ f fd, Mk K C f ∧ FnOk P w K mg base CX0 5 f fd ["self", "paths"] (spInit K C) ∧ Binds K fd ["self", "paths"] []
  con : ∃ g fd, Dun K C g "__contains__" ∧ FnOk P w K mg base CX0 5 g fd ["self", "path"] (spCon C) ∧ Binds K fd ["self", "path"] []
section
variable {X : Cx} {C : Addr} {e : Expr} {es : List Expr} {t : TA} {p pos : Pos}
theorem pe_mask (M : Mx X.prog X.w X.K X.mg X.base C) (hm : X.mg "Mask" = some (.ref C)) (hr : Room 6 X.A) (hg : Gl X "Mask") (ha : PA X (e :: es) t)
    (he : starEach (e :: es) X.env = (false, eval e X.env) :: starEach es X.env := by rfl) (hpl : (backTo pos (starEach es X.env)).any (·.1) = false := by rfl) :
    PE X (.Call (.Name "Mask" p) (e :: es) [] pos) (tMake C (spInit X.K C) [] E0 t) := by
  obtain ⟨f, fd, m, F, b⟩ := M.mkr
  exact pe_make m F hr hg hm b .nil pass0 ha (by decide) he hpl
theorem op_inMask (M : Mx X.prog X.w X.K X.mg X.base C) (hr : Room 5 X.A) : OpR X (compareOp .In) (rInOwn C (spCon C) false) := by
  obtain ⟨g, fd, d, F, b⟩ := M.con
  exact op_inOwn d F hr b
end
theorem mk_go {K : PySem.W.Frag} {C : Addr} {H : Hp} {x dx p : Addr} {us : List V} {ks : List (List Str)} {Q : Hp → Prop} (nx : H x = none) (nd : H dx = none) (ne : dx ≠ x) (hS : SqL K H p us ∨ SqT K H p us) (hp : PthA H us ks) (hok : ∀ k ∈ ks, okN k) (hl : ks.length ≤ 63)
    (q : ∀ H2 ls, Same H H2 → MaskAt C H2 x (fewL ls) → (∀ q o, H q = some o → (∀ ys, o ≠ .tup ys) → MaskAt C (hid q H2) x (fewL ls)) → ls.Perm ks → SrtP ls → Q H2) : spInit K C [.ref x, .ref p] (upd (upd H dx (.own x)) x (.ins C dx [])) (fun v H2 => v = .non ∧ Q H2) E0 := by
  have s1 := same_new (o := .own x) nd
  have nx1 : upd H dx (.own x) x = none := by
    rw [upd_ne ne.symm]
    exact nx
  have s2 := same_new (o := .ins C dx []) nx1
  have sm := s1.trans s2
  refine ⟨x, dx, p, us, ks, rfl, upd_same, hS.imp (sm.seq ·) (same_seqT sm ·), hp.mono sm, hok, hl, fun H' ls xx m mh pm so => ⟨rfl, q H' ls ?_ m (fun qa oa ha ht => mh qa oa (sm _ _ ha) (fun z => by rw [z, nx] at ha; cases ha) ht) pm so⟩⟩
  exact ExB.same xx nx sm
def spAnd (C : Addr) : Sp := fun vs H Q _ => ∃ (a b : Addr) (ks ls : List (List Str)), vs = [.ref a, .ref b] ∧ MaskAt C H a ks ∧ MaskAt C H b ls ∧ ks.length ≤ 31 ∧ ls.length ≤ 31 ∧ ∀ H' c zs, Same H H' → MaskAt C H' c (fewL zs) → zs.Perm (ks.filter (cov ls) ++ ls.filter (cov ks)) → SrtP zs → Q (.ref c) H'
def spOr (C : Addr) : Sp := fun vs H Q _ => ∃ (a b : Addr) (ks ls : List (List Str)), vs = [.ref a, .ref b] ∧ MaskAt C H a ks ∧ MaskAt C H b ls ∧ ks.length ≤ 31 ∧ ls.length ≤ 31 ∧ ∀ H' c zs, Same H H' → MaskAt C H' c (fewL zs) → zs.Perm (ks ++ ls) → SrtP zs → Q (.ref c) H'
def spWithin (C : Addr) : Sp := fun vs H Q _ => ∃ (a b : Addr) (ks ls : List (List Str)), vs = [.ref a, .ref b] ∧ MaskAt C H a ks ∧ MaskAt C H b ls ∧ ∀ H', Same H H' → Q (.bl (ks.all (cov ls))) H'
theorem PthA.app {H : Hp} {vs ws : List V} {ks ls : List (List Str)} (h : PthA H vs ks) (g : PthA H ws ls) : PthA H (vs ++ ws) (ks ++ ls) := by
  induction h with
  | nil => exact g
  | cons a _ ih => exact .cons a ih
/-- the paths of one mask that another one covers -/
theorem filt {K : PySem.W.Frag} {H1 : Hp} {D : Addr} {C b l : Addr} {us : List V} {ks ls : List (List Str)} {Qd : Hp → Prop} {g : TG} {tt : TT} {te : TE} {vs : List Nat} {σ : L2.St} (nD : H1 D = none) (el : H1 l = some (.lst us)) (hp : PthA H1 us ks) (hok : ∀ k ∈ ks, okN k) (hl : ks.length ≤ 63) (hb : MaskAt C H1 b ls)
    (hs : ∀ (t : Addr) (H : Hp) (R : Bool → Hp → Prop) (N : Hp → Prop), (∀ (c : Bool) (H' : Hp), R c H' → if c = true then (∃ acc, H' D = some (.lst acc) ∧ acc.length < sizeLine ∧ N (upd H' D (.lst (acc ++ [.ref t])))) else N H') → (∀ Q : VK, (∀ (c : Bool) (H' : Hp), R c H' → Q (.bl c) H') → rInOwn C (spCon C) false (.ref t) (.ref b) H Q) →
      g (.ref t) (wipe σ vs) H fun σ2 H2 => wipe σ2 vs = wipe σ vs ∧ tt σ2 H2 fun b H3 => if b = true then te σ2 H3 fun y H4 => ∃ acc, H4 D = some (.lst acc) ∧ acc.length < sizeLine ∧ N (upd H4 D (.lst (acc ++ [y]))) else N H3)
    (hd : ∀ H ws, Same H1 H → H D = some (.lst ws) → PthA H ws (ks.filter (cov ls)) → Qd H) :
    ∃ W : Nat → Nat → Hp → Prop, (∃ m, W 0 m (upd H1 D (.lst []))) ∧ ∀ i m H, W i m H →
      ((Itl K l).stop i H ∧ Qd H) ∨ ((Itl K l).go i H ∧ ∃ Nx : Hp → Prop, (∀ H', Nx H' → ∃ m', m' < m ∧ W (i + 1) m' H') ∧ ∀ x H', (Itl K l).yld i H x H' → g x (wipe σ vs) H' fun σ2 H2 => wipe σ2 vs = wipe σ vs ∧ tt σ2 H2 fun b H3 =>
        if b = true then te σ2 H3 fun y H4 => ∃ acc, H4 D = some (.lst acc) ∧ acc.length < sizeLine ∧ Nx (upd H4 D (.lst (acc ++ [y]))) else Nx H3) := by
  refine lc_list (xs := us) (fun i H' => Same H1 H' ∧ ∃ ws, H' D = some (.lst ws) ∧ PthA H' ws ((ks.take i).filter (cov ls))) ⟨same_new nD, [], upd_same, .nil⟩ (fun i H' _ hP => SqL.of (hP.1 _ _ el)) (fun i v H2 hv hP => ?_) (fun H2 hP => ?_)
  · obtain ⟨sm, ws, hD, hw⟩ := hP
    obtain ⟨t, k, rfl, hk, ht⟩ := PthA.at_ _ _ _ (hp.mono sm) hv
    have ok := hok k (List.mem_of_getElem? hk)
    have ft := filter_take (f := cov ls) hk
    have hwl := hw.len
    have flen := List.length_filter_le (cov ls) (ks.take i)
    rw [List.length_take] at flen
    refine hs t H2 (fun c H' => Same H2 H' ∧ c = cov ls k) _ (fun c H' hR => ?_) ?_
    · obtain ⟨s3, rfl⟩ := hR
      cases hc : cov ls k with
      | true =>
        rw [hc, if_pos rfl] at ft
        refine iteT ⟨ws, s3 _ _ hD, small1000 (by omega), ExB.put.same nD (sm.trans s3), _, upd_same, ?_⟩
        rw [ft]
        exact ((hw.mono s3).snoc (s3 _ _ ht)).exb ExB.put (s3 _ _ hD) (fun ys z => by cases z)
      | false =>
        rw [hc, if_neg Bool.false_ne_true, List.append_nil] at ft
        refine iteF ⟨sm.trans s3, ws, s3 _ _ hD, ?_⟩
        rw [ft]
        exact hw.mono s3
    · obtain ⟨dy, m, qs, eb, rest⟩ := hb.mono sm
      exact fun Q hQ => ⟨b, dy, _, rfl, eb, b, t, ls, k, rfl, ⟨dy, m, qs, eb, rest⟩, ht, ok, fun H' s' => ⟨_, rfl, hQ _ _ ⟨s', rfl⟩⟩⟩
  · obtain ⟨sm, ws, hD, hw⟩ := hP
    rw [hp.len, List.take_length] at hw
    exact hd H2 ws sm hD hw
section
variable {P : Program} {w : World} {K : PySem.W.Frag} {mg : Str → Option Value} {base : Heap} {f C : Addr} {fd : FuncData}
abbrev s_Mask_and : Stmt := inClass (top 16) 5
theorem sc_Mask_and : FnScope ["self", "other", "shared", "path"] ["self", "other"] (defScope s_Mask_and) := ⟨rfl, rfl, rfl, by decide +kernel, rfl, by decide +kernel, by decide +kernel⟩
theorem ok_Mask_and (T : Txt mg) (M : Mc K mg C) (F : Fun K "__and__" "Mask.__and__" s_Mask_and f fd) (MX : Mx P w K mg base C) : FnOk P w K mg base CX0 7 f fd ["self", "other"] (spAnd C) := by
  have S := sc_Mask_and
  refine F.ok S (fun vs H Q E h => ?_) (fun cdv A out s H vs Q E hr h => ?_)
  · obtain ⟨a, b, ks, ls, rfl, _⟩ := h
    rfl
  · obtain ⟨a, b, ks, ls, rfl, ma, mb, hl1, hl2, q⟩ := h
    refine ⟨_, (pss_cons (ps_setLc (i := 2) (own := [("path", 3)]) rfl S.nd rfl rfl (sw_true rfl rfl rfl (by decide +kernel)) (pi_list (pe_fld (pv 0) rfl)) (blkOk_by (own := [("path", 3)]) (N := ["self", "other", "shared", "path"]) (sc := defScope s_Mask_and) (by decide +kernel)) (fun _ _ _ _ _ => (pg_name (i := 3) S.nd rfl (.inl rfl))) (fun _ _ _ _ _ => (pts_one (pt_cmpR (op_inMask MX (hr.mono (by decide))) (pv 3) (pv 1) (by with_unfolding_all rfl)))) (fun _ _ _ _ _ => (pv 3)))
    (pss_one (ps_ret (pe_mask MX M.m (hr.mono (by decide)) (by rfl) (pa_cons (pe_op op_cat (pv 2) (pe_lc (own := [("path", 3)]) rfl S.nd (pi_list (pe_fld (pv 1) rfl)) (blkOk_by (own := [("path", 3)]) (N := ["self", "other", "shared", "path"]) (sc := defScope s_Mask_and) (by decide +kernel)) (fun _ _ _ _ _ => (pg_name (i := 3) S.nd rfl (.inl rfl))) (fun _ _ _ _ _ => (pts_one (pt_cmpR (op_inMask MX (hr.mono (by decide))) (pv 3) (pv 0) (by with_unfolding_all rfl)))) (fun _ _ _ _ _ => (pv 3)))) pa_nil))))), ?_⟩
    have ma0 := ma
    have mb0 := mb
    obtain ⟨dx, l, us, ea, el, ed, hp, hok, hl⟩ := ma
    obtain ⟨dy, m, ws, eb, em, ed2, hw, hok2, hlm⟩ := mb
    refine ⟨_, rfl, a, C, dx, _, _, rfl, ea, M.cl, M.na, rfl, l.1, rfl, ⟨us, SqL.of el⟩, fun D nD => ?_⟩
    refine filt nD el hp hok hl mb0 (fun t H2 R N hR hin => ⟨rfl, _, rfl, _, rfl, hin _ fun c H' r => ⟨c, rfl, ?_⟩⟩) (fun H2 vs1 s2 hD hv => ?_)
    · have z := hR c H' r
      cases c with
      | true => exact iteT ⟨_, rfl, z⟩
      | false => exact iteF z
    · refine ⟨_, rfl, _, rfl, b, C, dy, _, _, rfl, s2 _ _ eb, M.cl, M.na, rfl, m.1, rfl, ⟨ws, SqL.of (s2 _ _ em)⟩, fun D2 nD2 => ?_⟩
      refine filt nD2 (s2 _ _ em) (hw.mono s2) hok2 hlm (ma0.mono s2) (fun t H3 R N hR hin => ⟨rfl, _, rfl, _, rfl, hin _ fun c H' r => ⟨c, rfl, ?_⟩⟩) (fun H3 vs2 s3 hD2 hv2 => ?_)
      · have z := hR c H' r
        cases c with
        | true => exact iteT ⟨_, rfl, z⟩
        | false => exact iteF z
      · have f1 := List.length_filter_le (cov ls) ks
        have f2 := List.length_filter_le (cov ks) ls
        have c1 := hv.len
        have c2 := hv2.len
        refine ⟨D, D2, vs1, vs2, rfl, rfl, s3 _ _ hD, hD2, ?_, fun q1 nq => ?_⟩
        · exact Nat.le_of_lt (small1000 (by omega))
        have s4 := same_new (o := .lst (vs1 ++ vs2)) nq
        refine fun x dx2 nx nd ne => mk_go nx nd ne (.inl (SqL.of upd_same)) ((hv.mono (s3.trans s4)).app (hv2.mono s4)) (fun k hk => ?_) ?_ (fun H5 zs s5 mm _ pm so => q _ _ zs (s2.trans (s3.trans (s4.trans s5))) mm pm so)
        · rcases List.mem_append.mp hk with z | z
          · exact hok k (List.mem_filter.mp z).1
          · exact hok2 k (List.mem_filter.mp z).1
        · rw [List.length_append]
          omega
abbrev s_Mask_or : Stmt := inClass (top 16) 6
theorem sc_Mask_or : FnScope ["self", "other"] ["self", "other"] (defScope s_Mask_or) := ⟨rfl, rfl, rfl, by decide +kernel, rfl, by decide +kernel, by decide +kernel⟩
theorem ok_Mask_or (T : Txt mg) (M : Mc K mg C) (F : Fun K "__or__" "Mask.__or__" s_Mask_or f fd) (MX : Mx P w K mg base C) : FnOk P w K mg base CX0 7 f fd ["self", "other"] (spOr C) := by
  have S := sc_Mask_or
  refine F.ok S (fun vs H Q E h => ?_) (fun cdv A out s H vs Q E hr h => ?_)
  · obtain ⟨a, b, ks, ls, rfl, _⟩ := h
    rfl
  · obtain ⟨a, b, ks, ls, rfl, ⟨dx, l, us, ea, el, ed, hp, hok, hl⟩, ⟨dy, m, ws, eb, em, ed2, hw, hok2, hlm⟩, hl1, hl2, q⟩ := h
    refine ⟨_, (pss_one (ps_ret (pe_mask MX M.m (hr.mono (by decide)) (by rfl) (pa_cons (pe_op op_cat (pe_fld (pv 0) rfl) (pe_fld (pv 1) rfl)) pa_nil)))), ?_⟩
    have c1 := hp.len
    have c2 := hw.len
    refine ⟨_, rfl, a, C, dx, _, _, rfl, ea, M.cl, M.na, rfl, _, rfl, b, C, dy, _, _, rfl, eb, M.cl, M.na, rfl, l.1, m.1, us, ws, rfl, rfl, el, em, ?_, fun q1 nq => ?_⟩
    · exact Nat.le_of_lt (small1000 (by omega))
    have s4 := same_new (o := .lst (us ++ ws)) nq
    refine fun x dx2 nx nd ne => mk_go nx nd ne (.inl (SqL.of upd_same)) ((hp.mono s4).app (hw.mono s4)) (fun k hk => ?_) ?_ (fun H5 zs s5 mm _ pm so => q _ _ zs (s4.trans s5) mm pm so)
    · rcases List.mem_append.mp hk with z | z
      · exact hok k z
      · exact hok2 k z
    · rw [List.length_append]
      omega
end
end K14
set_option maxHeartbeats 8000000
namespace K14
open PySem PySem.Spec PyProof.Rows L2 Zk Zs Zo Zd
theorem nm_ok : ∀ x ∈ NM, nameD (.str x) = true ∧ x.length ≤ 1000 ∧ PyData.strOk x = true := by decide +kernel
theorem okN_of {k : List Str} (h : okP k) : okN k :=
  ⟨⟨h.1, by have := h.2.1; omega, fun x hx => (nm_ok x (h.2.2 x hx)).2.2⟩, fun x hx => ⟨(nm_ok x (h.2.2 x hx)).1, (nm_ok x (h.2.2 x hx)).2.1⟩⟩
/-! ### the class, as the law uses it -/
structure My (P : Program) (w : World) (K : PySem.W.Frag) (mg : Str → Option Value) (base : Heap) (C T0 : Addr) : Prop where
  mx : Mx P w K mg base C
  m : mg "Mask" = some (.ref C)
  cl : Cls K C
  sf : PySem.W.selfFirst K C = true
  mk0 : ∃ f fd ds, Mk K C f ∧ FnOk P w K mg base CX0 5 f fd ["self", "paths"] (spInit K C) ∧ Vals [V.ref T0] ds ∧ Binds K fd ["self", "paths"] ds
  t0 : ∀ H, SqT K H T0 []
  mkK : ∃ f fd g, Mk K C f ∧ FnOk P w K mg base CX0 5 f fd ["self", "paths"] (spInit K C) ∧ KBn K fd ["self", "paths"] 1 ["paths"] g (fun vs zs => vs ++ zs)
  eq : ∃ g fd, Dun K C g "__eq__" ∧ FnOk P w K mg base CX0 1 g fd ["self", "other"] (spEq C) ∧ Binds K fd ["self", "other"] []
  ne : PySem.W.findIn K (.ref C) "__ne__" = some (some (.builtin "object.__ne__"))
  ob : PySem.W.subIn K (.ref C) (.type "object") = some true
  an : ∃ g fd, Dun K C g "__and__" ∧ FnOk P w K mg base CX0 7 g fd ["self", "other"] (spAnd C) ∧ Binds K fd ["self", "other"] []
  orr : ∃ g fd, Dun K C g "__or__" ∧ FnOk P w K mg base CX0 7 g fd ["self", "other"] (spOr C) ∧ Binds K fd ["self", "other"] []
section
variable {X : Cx} {C T0 : Addr} {e o : Expr} {es : List Expr} {t : TA} {te ta : TE} {p pos kp apos : Pos}
theorem pe_mask0 (M : My X.prog X.w X.K X.mg X.base C T0) (hr : Room 6 X.A) (hg : Gl X "Mask") : PE X (.Call (.Name "Mask" p) [] [] pos) (tMake C (spInit X.K C) [.ref T0] E0 tNil) := by
  obtain ⟨f, fd, ds, m, F, d, b⟩ := M.mk0
  exact pe_make0 m F hr hg M.m b d pass0 (by decide)
theorem pe_maskK (M : My X.prog X.w X.K X.mg X.base C T0) (hr : Room 6 X.A) (hg : Gl X "Mask") (he : PE X e te)
    (hall : (backToKw pos (keywordEach [⟨"paths", e, kp⟩] X.env)).all (·.1.isSome) = true := by rfl) (hks : (backToKw pos (keywordEach [⟨"paths", e, kp⟩] X.env)).filterMap (·.1) = (["paths"] : List Str) := by rfl)
    (hpl : ((backTo pos (starEach [] X.env)).any (·.1) || (backToKw pos (keywordEach [⟨"paths", e, kp⟩] X.env)).any (·.1.isNone)) = false := by rfl) :
    PE X (.Call (.Name "Mask" p) [] [⟨"paths", e, kp⟩] pos) (tMakeK C 0 1 (spInit X.K C) (fun vs zs => vs ++ zs) E0 tNil (tCons te tNil)) := by
  obtain ⟨f, fd, g, m, F, b⟩ := M.mkK
  exact pe_makeK0 m F hr hg M.m b pass0 (pk_cons he pk_nil) hall hks (by decide) hpl
theorem op_neMask (M : My X.prog X.w X.K X.mg X.base C T0) (hr : Room 2 X.A) : OpR X (compareOp .NotEq) (rNeOwn C (spEq C)) := by
  obtain ⟨g, fd, d, F, b⟩ := M.eq
  exact op_neOwn d M.ne M.ob F hr b
theorem op_andMask (M : My X.prog X.w X.K X.mg X.base C T0) (hr : Room 7 X.A) : OpR X (binaryOp .BitAnd) (rOwn C (spAnd C)) := by
  obtain ⟨g, fd, d, F, b⟩ := M.an
  exact op_own M.sf d F hr b
theorem op_orMask (M : My X.prog X.w X.K X.mg X.base C T0) (hr : Room 7 X.A) : OpR X (binaryOp .BitOr) (rOwn C (spOr C)) := by
  obtain ⟨g, fd, d, F, b⟩ := M.orr
  exact op_own M.sf d F hr b
end
end K14
set_option maxHeartbeats 8000000
namespace K14
open PySem PySem.Spec PyProof.Rows L2 Zk Zs Zo Zd
/-! ### masks in their least form -/
def MaskC (C : Addr) (H : Hp) (a : Addr) (ks : List (List Str)) : Prop := MaskAt C H a ks ∧ Canon ks
theorem MaskC.mono {C : Addr} {H H' : Hp} {a : Addr} {ks : List (List Str)} (h : MaskC C H a ks) (s : Same H H') : MaskC C H' a ks := ⟨h.1.mono s, h.2⟩
theorem few_le (zs : List (List Str)) : (fewL zs).length ≤ zs.length := by
  have z := few_len zs []
  have z0 : ([] : List (List Str)).length = 0 := rfl
  rw [z0, Nat.zero_add] at z
  exact z
section
variable {C a b : Addr} {H : Hp} {ks ls : List (List Str)} {Q : VK}
theorem and_go (ma : MaskC C H a ks) (mb : MaskC C H b ls) (l1 : ks.length ≤ 31) (l2 : ls.length ≤ 31)
    (q : ∀ H' c zs, Same H H' → MaskC C H' c zs → (∀ p, cov zs p = (cov ks p && cov ls p)) → zs.length ≤ ks.length + ls.length → Q (.ref c) H') : rOwn C (spAnd C) (.ref a) (.ref b) H Q := by
  have ma' := ma.1
  have mb' := mb.1
  obtain ⟨da, la, va, ea, ra⟩ := ma.1
  obtain ⟨db, lb, vb, eb, rb⟩ := mb.1
  refine ⟨a, da, _, b, db, _, rfl, rfl, ea, eb, a, b, ks, ls, rfl, ma', mb', l1, l2, fun H' c zs s m pm so => q H' c _ s ⟨m, few_canon so⟩ (fun p => ?_) ?_⟩
  · rw [few_same, perm_cov pm, and_cov]
  · have := few_le zs
    have := pm.length_eq
    have := List.length_filter_le (cov ls) ks
    have := List.length_filter_le (cov ks) ls
    rw [List.length_append] at *
    omega
theorem or_go (ma : MaskC C H a ks) (mb : MaskC C H b ls) (l1 : ks.length ≤ 31) (l2 : ls.length ≤ 31)
    (q : ∀ H' c zs, Same H H' → MaskC C H' c zs → (∀ p, cov zs p = (cov ks p || cov ls p)) → zs.length ≤ ks.length + ls.length → Q (.ref c) H') : rOwn C (spOr C) (.ref a) (.ref b) H Q := by
  have ma' := ma.1
  have mb' := mb.1
  obtain ⟨da, la, va, ea, ra⟩ := ma.1
  obtain ⟨db, lb, vb, eb, rb⟩ := mb.1
  refine ⟨a, da, _, b, db, _, rfl, rfl, ea, eb, a, b, ks, ls, rfl, ma', mb', l1, l2, fun H' c zs s m pm so => q H' c _ s ⟨m, few_canon so⟩ (fun p => ?_) ?_⟩
  · rw [few_same, perm_cov pm, or_cov]
  · have := few_le zs
    have := pm.length_eq
    rw [List.length_append] at *
    omega
theorem ne_go (ma : MaskC C H a ks) (mb : MaskC C H b ls) (h : ∀ p, cov ks p = cov ls p) (q : ∀ H', Same H H' → Q (.bl false) H') : rNeOwn C (spEq C) (.ref a) (.ref b) H Q := by
  have e := canon_uniq ma.2 mb.2 h
  have ma' := ma.1
  have mb' := mb.1
  obtain ⟨da, la, va, ea, ra⟩ := ma.1
  obtain ⟨db, lb, vb, eb, rb⟩ := mb.1
  refine ⟨a, da, _, b, db, _, rfl, rfl, ea, eb, a, b, ks, ls, rfl, ma', mb', fun H' s => ⟨_, rfl, ?_⟩⟩
  rw [decide_eq_true e]
  exact q H' s
theorem eq_go (ma : MaskC C H a ks) (mb : MaskC C H b ls) (q : ∀ H', Same H H' → Q (.bl (decide (ks = ls))) H') : rOwn C (spEq C) (.ref a) (.ref b) H Q := by
  have ma' := ma.1
  have mb' := mb.1
  obtain ⟨da, la, va, ea, ra⟩ := ma.1
  obtain ⟨db, lb, vb, eb, rb⟩ := mb.1
  exact ⟨a, da, _, b, db, _, rfl, rfl, ea, eb, a, b, ks, ls, rfl, ma', mb', q⟩
end
theorem within_or {ks ls zo : List (List Str)} (ck : Canon ls) (co : Canon zo) (h : ∀ p, cov zo p = (cov ks p || cov ls p)) : ks.all (cov ls) = decide (zo = ls) := by
  rw [Bool.eq_iff_iff, List.all_eq_true, decide_eq_true_eq]
  constructor
  · intro w
    refine canon_uniq co ck fun p => ?_
    rw [h p, Bool.eq_iff_iff, Bool.or_eq_true]
    refine ⟨fun z => ?_, .inr⟩
    rcases z with z | z
    · obtain ⟨k, hk, hb⟩ := cov_iff.mp z
      obtain ⟨l, hl, hc⟩ := cov_iff.mp (w k hk)
      exact cov_of hl (beg_trans hb hc)
    · exact z
  · rintro rfl k hk
    rw [h k, cov_of hk (beg_self k), Bool.true_or]
theorem within_and {ks ls zs : List (List Str)} (ck : Canon ks) (cz : Canon zs) (h : ∀ p, cov zs p = (cov ks p && cov ls p)) : ks.all (cov ls) = decide (zs = ks) := by
  rw [Bool.eq_iff_iff, List.all_eq_true, decide_eq_true_eq]
  constructor
  · intro w
    refine canon_uniq cz ck fun p => ?_
    rw [h p, Bool.eq_iff_iff, Bool.and_eq_true]
    refine ⟨fun z => z.1, fun z => ⟨z, ?_⟩⟩
    obtain ⟨k, hk, hb⟩ := cov_iff.mp z
    obtain ⟨l, hl, hc⟩ := cov_iff.mp (w k hk)
    exact cov_of hl (beg_trans hb hc)
  · rintro rfl k hk
    have z := h k
    rw [cov_of hk (beg_self k), Bool.true_and] at z
    exact z.symm
theorem within_both {ks ls : List (List Str)} (ck : Canon ks) (cl : Canon ls) : decide (ks = ls) = (ks.all (cov ls) && ls.all (cov ks)) := by
  rw [Bool.eq_iff_iff, Bool.and_eq_true, List.all_eq_true, List.all_eq_true, decide_eq_true_eq]
  constructor
  · rintro rfl
    exact ⟨fun k hk => cov_of hk (beg_self k), fun k hk => cov_of hk (beg_self k)⟩
  · rintro ⟨h1, h2⟩
    refine canon_uniq ck cl fun p => ?_
    rw [Bool.eq_iff_iff, cov_iff, cov_iff]
    constructor
    · rintro ⟨k, hk, hb⟩
      obtain ⟨l, hl, hc⟩ := cov_iff.mp (h1 k hk)
      exact ⟨l, hl, beg_trans hb hc⟩
    · rintro ⟨k, hk, hb⟩
      obtain ⟨l, hl, hc⟩ := cov_iff.mp (h2 k hk)
      exact ⟨l, hl, beg_trans hb hc⟩
end K14
set_option maxHeartbeats 8000000
namespace K14
open PySem PySem.Spec PyProof.Rows L2 Zk Zs Zo Zd
def spPaths (C : Addr) : Sp := fun vs H Q _ => ∃ (a : Addr) (ks : List (List Str)), vs = [.ref a] ∧ MaskAt C H a ks ∧ ∀ H' l ws, Same H H' → H l = none → H' l = some (.lst ws) → PthA H' ws ks → Q (.ref l) H'
def spLen (C : Addr) : Sp := fun vs H Q _ => ∃ (a : Addr) (ks : List (List Str)), vs = [.ref a] ∧ MaskAt C H a ks ∧ Q (.int (ks.length : Int)) H
structure Mz (P : Program) (w : World) (K : PySem.W.Frag) (mg : Str → Option Value) (base : Heap) (C : Addr) : Prop where
  pr : ∃ p g fd, PropOf K C "paths" p g ∧ FnOk P w K mg base CX0 1 g fd ["self"] (spPaths C) ∧ Binds K fd ["self"] []
  ln : ∃ g fd, Dun K C g "__len__" ∧ FnOk P w K mg base CX0 1 g fd ["self"] (spLen C) ∧ Binds K fd ["self"] []
theorem op_notInMask {X : Cx} {C : Addr} (M : Mx X.prog X.w X.K X.mg X.base C) (hr : Room 5 X.A) : OpR X (compareOp .NotIn) (rInOwn C (spCon C) true) := by
  obtain ⟨g, fd, d, F, b⟩ := M.con
  exact op_notInOwn d F hr b
theorem pe_maskB {X : Cx} {K : PySem.W.Frag} {C : Addr} {e : Expr} {es : List Expr} {t : TA} {p pos : Pos} (hK : X.K = K) (M : Mx X.prog X.w K X.mg X.base C) (hm : X.mg "Mask" = some (.ref C)) (hr : Room 6 X.A) (hg : Gl X "Mask") (ha : PA X (e :: es) t)
    (he : starEach (e :: es) X.env = (false, eval e X.env) :: starEach es X.env := by rfl) (hpl : (backTo pos (starEach es X.env)).any (·.1) = false := by rfl) :
    PE X (.Call (.Name "Mask" p) (e :: es) [] pos) (tMake C (spInit K C) [] E0 t) := by
  subst hK
  exact pe_mask M hm hr hg ha he hpl
theorem few_id {f : List (List Str)} (c : Canon f) : fewL f = f := canon_uniq (few_canon c.so) c (few_same f)
theorem bl_shown (b : Bool) : PyData.showable (.bool b) = true ∧ (PyData.shown (.bool b)).length ≤ sizeLine ∧ PyData.depth (.bool b) ≤ 40 := by cases b <;> decide +kernel
/-- two lists of paths, by != and == -/
theorem ne_rows {K : PySem.W.Frag} {H : Hp} {a b : Addr} {us ws : List V} {ks ls : List (List Str)} {Q : VK} (ea : SqL K H a us) (eb : SqL K H b ws) (ha : PthA H us ks) (hb : PthA H ws ls) (oa : ∀ k ∈ ks, okK k) (ob : ∀ k ∈ ls, okK k) (q : Q (.bl (!decide (ks = ls))) H) : rNeD K (.ref a) (.ref b) H Q := by
  refine ⟨_, _, .lst ea (dp_rows ha), .lst eb (dp_rows hb), shaped_rows oa, shaped_rows ob, ?_⟩
  have z : PyData.eqv (.list (ks.map fun k => PyData.tuple (k.map PyData.str))) (.list (ls.map fun k => PyData.tuple (k.map PyData.str))) = decide (ks = ls) := eqv_rows ks ls
  rw [z]
  exact q
theorem eq_rows {K : PySem.W.Frag} {H : Hp} {a b : Addr} {us ws : List V} {ks ls : List (List Str)} {Q : VK} (ea : SqL K H a us) (eb : SqL K H b ws) (ha : PthA H us ks) (hb : PthA H ws ls) (oa : ∀ k ∈ ks, okK k) (ob : ∀ k ∈ ls, okK k) (q : Q (.bl (decide (ks = ls))) H) : rEqD K (.ref a) (.ref b) H Q := by
  refine ⟨_, _, .lst ea (dp_rows ha), .lst eb (dp_rows hb), shaped_rows oa, shaped_rows ob, ?_⟩
  have z : PyData.eqv (.list (ks.map fun k => PyData.tuple (k.map PyData.str))) (.list (ls.map fun k => PyData.tuple (k.map PyData.str))) = decide (ks = ls) := eqv_rows ks ls
  rw [z]
  exact q
theorem in_go {C b t : Addr} {H : Hp} {ks : List (List Str)} {k : List Str} {Q : VK} (ma : MaskAt C H b ks) (ht : H t = some (.tup (k.map V.str))) (ok : okN k) (q : ∀ H', Same H H' → Q (.bl (cov ks k)) H') : rInOwn C (spCon C) false (.ref t) (.ref b) H Q := by
  have ma2 := ma
  obtain ⟨db, lb, vb, eb, _⟩ := ma2
  exact ⟨b, db, _, rfl, eb, b, t, ks, k, rfl, ma, ht, ok, fun H' s => ⟨_, rfl, q H' s⟩⟩
theorem op_catTK {X : Cx} {K : PySem.W.Frag} (hK : X.K = K) : OpR X (binaryOp .Add) (rCatT K) := hK ▸ op_catT
/-- path + (c,) -/
theorem add_tup {K : PySem.W.Frag} {H : Hp} {t : Addr} {k : List Str} {c : Str} {Q : VK} (ht : H t = some (.tup (k.map V.str))) (kn : k ≠ []) (kl : k.length ≤ 100) (q : ∀ p H', Same H H' → H' p = some (.tup ((k ++ [c]).map V.str)) → Q (.ref p) H') (tb : Addr) (nb : H tb = none) : rCatT K (.ref t) (.ref tb) (upd H tb (.tup [V.str c])) Q := by
  refine ⟨t, tb, _, _, rfl, rfl, SqT.of ((same_new nb) _ _ ht), SqT.of upd_same, fun z => kn (List.map_eq_nil_iff.mp z), ?_, (fun z => by cases z), fun _ p np => q p _ ((same_new nb).trans (same_new np)) ?_⟩
  · rw [List.length_map]
    exact Nat.le_of_lt (small1000 (by show k.length + 1 ≤ 1000; omega))
  · rw [upd_same, List.map_append]
    rfl
/-- [path + (c,) for path in l], at its turns -/
theorem app_go {K : PySem.W.Frag} {H1 : Hp} {D l : Addr} {us : List V} {ks : List (List Str)} (c : Str) {Qd : Hp → Prop} {g : TG} {tt : TT} {te : TE} {vs : List Nat} {σ : L2.St} (nD : H1 D = none) (el : SqL K H1 l us) (hp : PthA H1 us ks) (hok : ∀ k ∈ ks, k ≠ [] ∧ k.length ≤ 100) (hl : ks.length ≤ 300)
    (hs : ∀ (t : Addr) (k : List Str) (H : Hp) (N : Hp → Prop), H t = some (.tup (k.map V.str)) → k ≠ [] → k.length ≤ 100 → (∀ p H', Same H H' → H' p = some (.tup ((k ++ [c]).map V.str)) → ∃ acc, H' D = some (.lst acc) ∧ acc.length < sizeLine ∧ N (upd H' D (.lst (acc ++ [.ref p])))) →
      g (.ref t) (wipe σ vs) H fun σ2 H2 => wipe σ2 vs = wipe σ vs ∧ tt σ2 H2 fun b H3 => if b = true then te σ2 H3 fun y H4 => ∃ acc, H4 D = some (.lst acc) ∧ acc.length < sizeLine ∧ N (upd H4 D (.lst (acc ++ [y]))) else N H3)
    (hd : ∀ H ws, Same H1 H → H D = some (.lst ws) → PthA H ws (ks.map fun k => k ++ [c]) → Qd H) :
    ∃ W : Nat → Nat → Hp → Prop, (∃ m, W 0 m (upd H1 D (.lst []))) ∧ ∀ i m H, W i m H →
      ((Itl K l).stop i H ∧ Qd H) ∨ ((Itl K l).go i H ∧ ∃ Nx : Hp → Prop, (∀ H', Nx H' → ∃ m', m' < m ∧ W (i + 1) m' H') ∧ ∀ x H', (Itl K l).yld i H x H' → g x (wipe σ vs) H' fun σ2 H2 => wipe σ2 vs = wipe σ vs ∧ tt σ2 H2 fun b H3 =>
        if b = true then te σ2 H3 fun y H4 => ∃ acc, H4 D = some (.lst acc) ∧ acc.length < sizeLine ∧ Nx (upd H4 D (.lst (acc ++ [y]))) else Nx H3) := by
  refine lc_list (xs := us) (fun i H' => Same H1 H' ∧ ∃ ws, H' D = some (.lst ws) ∧ PthA H' ws ((ks.take i).map fun k => k ++ [c])) ⟨same_new nD, [], upd_same, .nil⟩ (fun i H' _ hP => hP.1.seq el) (fun i v H2 hv hP => ?_) (fun H2 hP => ?_)
  · obtain ⟨sm, ws, hD, hw⟩ := hP
    obtain ⟨t, k, rfl, hk, ht⟩ := PthA.at_ _ _ _ (hp.mono sm) hv
    obtain ⟨k1, k2⟩ := hok k (List.mem_of_getElem? hk)
    have wl := hw.len
    rw [List.length_map, List.length_take] at wl
    refine hs t k H2 _ ht k1 k2 fun p H' s' e => ⟨ws, s' _ _ hD, small1000 (by omega), ExB.put.same nD (sm.trans s'), _, upd_same, ?_⟩
    rw [List.take_add_one, hk, List.map_append]
    exact ((hw.mono s').snoc e).exb ExB.put (s' _ _ hD) (fun ys z => by cases z)
  · obtain ⟨sm, ws, hD, hw⟩ := hP
    rw [hp.len, List.take_length] at hw
    exact hd H2 ws sm hD hw
theorem PthA.take {H : Hp} {vs : List V} {ks : List (List Str)} (h : PthA H vs ks) (n : Nat) : PthA H (vs.take n) (ks.take n) := by
  induction h generalizing n with
  | nil => rw [List.take_nil, List.take_nil]; exact .nil
  | cons a _ ih =>
    cases n with
    | zero => exact .nil
    | succ n => exact .cons a (ih n)
/-- what covers the paths of the least list, covers all -/
theorem all_few (ls : List (List Str)) (f : List Str → Bool) (up : ∀ k l, beg k l = true → f l = true → f k = true) : (fewL ls).all f = ls.all f := by
  rw [Bool.eq_iff_iff, List.all_eq_true, List.all_eq_true]
  constructor
  · intro h k hk
    obtain ⟨l, hl, hb⟩ := cov_iff.mp (few_cov ls [] k hk)
    exact up k l hb (h l hl)
  · exact fun h k hk => h k (fewL_sub hk)
theorem cov_up {ls : List (List Str)} {k l : List Str} (h : beg k l = true) (c : cov ls l = true) : cov ls k = true := by
  obtain ⟨m, hm, hb⟩ := cov_iff.mp c
  exact cov_of hm (beg_trans h hb)
end K14
set_option maxHeartbeats 8000000
namespace KF
open PySem PySem.Spec PyProof.Rows L2 Zk Zs Zo Zd Zt K14
def top (i : Nat) : Stmt := PySem.Challenge.pw_maskwrites_k09_masks_made.main.body.getD i (.Pass ⟨0, 0, 0, 0⟩)
structure Txt (mg : Str → Option Value) : Prop where
  b_len : mg "len" = none
  b_set : mg "set" = none
  b_sorted : mg "sorted" = none
theorem op_neDK {X : Cx} {K : PySem.W.Frag} (hK : X.K = K) (hu : X.A.units + 64 < cLine) : OpR X (compareOp .NotEq) (rNeD K) := by
  subst hK
  exact op_neD hu
def spBeg : Sp := fun vs H Q _ => ∃ (a b : Addr) (k l : List Str), vs = [.ref a, .ref b] ∧ H a = some (.tup (k.map V.str)) ∧ H b = some (.tup (l.map V.str)) ∧ k.length ≤ 1000 ∧ l.length ≤ 1000 ∧ (∀ x ∈ k, PyData.strOk x = true) ∧ (∀ x ∈ l, PyData.strOk x = true) ∧ ∀ H', Same H H' → Q (.bl (beg k l)) H'
/-- one after the other, those that none found begins -/
def addC (f : List (List Str)) (k : List Str) : List (List Str) := if cov f k = true then f else f ++ [k]
def foldC (ls : List (List Str)) : List (List Str) := ls.foldl addC []
theorem addC_sub {f : List (List Str)} {k l : List Str} (h : l ∈ f) : l ∈ addC f k := by
  unfold addC
  split
  · exact h
  · exact List.mem_append_left _ h
theorem foldC_mono : ∀ (ls f : List (List Str)) {l : List Str}, l ∈ f → l ∈ ls.foldl addC f
  | [], _, _, h => h
  | k :: ls, f, _, h => foldC_mono ls (addC f k) (addC_sub h)
theorem foldC_mem : ∀ (ls f : List (List Str)) {l : List Str}, l ∈ ls.foldl addC f → l ∈ f ∨ l ∈ ls
  | [], _, _, h => .inl h
  | k :: ls, f, l, h => by
    rcases foldC_mem ls (addC f k) h with z | z
    · unfold addC at z
      split at z
      · exact .inl z
      · rcases List.mem_append.mp z with y | y
        · exact .inl y
        · exact .inr (List.mem_cons.mpr (.inl (List.mem_singleton.mp y)))
    · exact .inr (List.mem_cons_of_mem _ z)
theorem foldC_cov : ∀ (ls f : List (List Str)), ∀ k ∈ ls, ∃ l, l ∈ ls.foldl addC f ∧ beg k l = true
  | x :: ls, f, k, h => by
    rcases List.mem_cons.mp h with rfl | h
    · by_cases c : cov f k = true
      · obtain ⟨l, hl, hb⟩ := cov_iff.mp c
        exact ⟨l, foldC_mono ls _ (addC_sub hl), hb⟩
      · refine ⟨k, foldC_mono ls _ ?_, beg_self k⟩
        unfold addC
        rw [if_neg c]
        exact List.mem_append_right _ (List.mem_singleton.mpr rfl)
    · exact foldC_cov ls (addC f x) k h
theorem foldC_canon : ∀ (ls f : List (List Str)), SrtP (f ++ ls) → f.Pairwise (fun x y => beg y x = false) → Canon (ls.foldl addC f)
  | [], f, s, a => ⟨by rwa [List.append_nil] at s, a⟩
  | k :: ls, f, s, a => by
    show Canon (ls.foldl addC (addC f k))
    unfold addC
    split
    · refine foldC_canon ls f (List.Pairwise.sublist ?_ s) a
      exact List.Sublist.append_left (List.sublist_cons_self _ _) _
    · rename_i c
      refine foldC_canon ls (f ++ [k]) (by rw [List.append_assoc]; exact s) (List.pairwise_append.mpr ⟨a, List.pairwise_singleton _ _, fun x hx y hy => ?_⟩)
      rw [List.mem_singleton.mp hy]
      cases z : beg k x with
      | false => rfl
      | true => exact absurd (cov_of hx z) c
theorem foldC_few {ks ls ls0 : List (List Str)} (m : ∀ k, k ∈ ls ↔ k ∈ ks) (s : SrtP ls) (p0 : ls0.Perm ks) (s0 : SrtP ls0) : foldC ls = fewL ls0 := by
  refine canon_uniq (foldC_canon ls [] s List.Pairwise.nil) (few_canon s0) fun p => ?_
  rw [few_same, perm_cov p0, ← mem_cov m, Bool.eq_iff_iff, cov_iff, cov_iff]
  constructor
  · rintro ⟨l, hl, hb⟩
    rcases foldC_mem ls [] hl with z | z
    · cases z
    · exact ⟨l, z, hb⟩
  · rintro ⟨l, hl, hb⟩
    obtain ⟨n, hn, hc⟩ := foldC_cov ls [] l hl
    exact ⟨n, hn, beg_trans hb hc⟩
theorem foldC_take {ls : List (List Str)} {i : Nat} {k : List Str} (h : ls[i]? = some k) : foldC (ls.take (i + 1)) = addC (foldC (ls.take i)) k := by
  unfold foldC
  rw [List.take_add_one, h, List.foldl_append]
  rfl
theorem foldC_len : ∀ (ls f : List (List Str)), (ls.foldl addC f).length ≤ f.length + ls.length
  | [], _ => Nat.le_refl _
  | k :: ls, f => by
    have := foldC_len ls (addC f k)
    have z : (addC f k).length ≤ f.length + 1 := by
      unfold addC
      split
      · omega
      · rw [List.length_append, List.length_singleton]
        exact Nat.le_refl _
    rw [List.foldl_cons, List.length_cons]
    omega
section
variable {P : Program} {w : World} {K : PySem.W.Frag} {mg : Str → Option Value} {base : Heap} {f C T0 : Addr} {fd : FuncData}
abbrev s_law_begins : Stmt := top 22
theorem sc_law_begins : FnScope ["path", "front"] ["path", "front"] (defScope s_law_begins) := ⟨rfl, rfl, rfl, by decide +kernel, rfl, by decide +kernel, by decide +kernel⟩
theorem ok_law_begins (T : Txt mg) (p : Pl K mg "_law_begins" s_law_begins ["path", "front"] f fd) : Dfo P w K mg base 1 "_law_begins" ["path", "front"] spBeg := by
  have S := sc_law_begins
  refine plo p (p.F.ok S (fun vs H Q E h => ?_) (fun cdv A out s H vs Q E hr h => ?_))
  · obtain ⟨a, b, k, l, rfl, _⟩ := h
    rfl
  · obtain ⟨a, b, k, l, rfl, ha, hb, hk, hl, ok, ol, q⟩ := h
    refine ⟨_, (pss_one (ps_ret (pe_cmpR (op_eqD hr.units) (pe_slice (sl_tupK (K := K) rfl) (pv 0) po_none (po_some (pe_callB call_len_seq (by rfl) T.b_len (by decide +kernel) (pa_cons (pv 1) pa_nil)))) (pv 1) (nomark _)))), ?_⟩
    have len : ((l.map V.str).length : Int) = ((l.length : Nat) : Int) := by rw [List.length_map]
    refine ⟨_, rfl, _, rfl, b, _, rfl, .inr (SqT.of hb), _, rfl, a, _, rfl, SqT.of ha, fun e => ?_, fun e t nt => ?_⟩
    · rw [len, HT.sIx_nat, HT.sIx_none, List.length_map] at e
      have z : k.take l.length = k := List.take_of_length_le (by omega)
      refine ⟨_, rfl, _, _, .tup (SqT.of ha) (dpAll_strs k), .tup (SqT.of hb) (dpAll_strs l), shaped_strs k ok, shaped_strs l ol, ?_⟩
      have y : PyData.eqv (.tuple (k.map PyData.str)) (.tuple (l.map PyData.str)) = beg k l := by
        show PyData.eqvAll _ _ = _
        rw [eqv_strs]
        unfold beg
        rw [z]
      rw [y]
      exact q _ (Same.refl _)
    · have c : cutV (k.map V.str) none (some ((l.map V.str).length : Int)) = (k.take l.length).map V.str := by
        unfold cutV
        rw [len, HT.sIx_nat, HT.sIx_none, List.drop_zero, Nat.sub_zero, ← List.map_take, List.length_map]
        by_cases h : l.length ≤ k.length
        · rw [Nat.min_eq_left h]
        · rw [Nat.min_eq_right (by omega), List.take_of_length_le (Nat.le_refl _), List.take_of_length_le (by omega)]
      rw [c]
      have sm := same_new (o := .tup ((k.take l.length).map V.str)) nt
      refine ⟨_, rfl, _, _, .tup (SqT.of upd_same) (dpAll_strs _), .tup (SqT.of (sm _ _ hb)) (dpAll_strs l), shaped_strs _ (fun x hx => ok x (List.mem_of_mem_take hx)), shaped_strs l ol, ?_⟩
      have y : PyData.eqv (.tuple ((k.take l.length).map PyData.str)) (.tuple (l.map PyData.str)) = beg k l := by
        show PyData.eqvAll _ _ = _
        rw [eqv_strs]
        rfl
      rw [y]
      exact q _ sm
/-- a list of paths, asked for a path -/
def spCovers (K : PySem.W.Frag) : Sp := fun xs H Q _ => ∃ (l t : Addr) (us : List V) (ks : List (List Str)) (k : List Str), xs = [.ref l, .ref t] ∧ SqL K H l us ∧ PthA H us ks ∧ (∀ k ∈ ks, okK k) ∧ ks.length ≤ 900 ∧ H t = some (.tup (k.map V.str)) ∧ k.length ≤ 1000 ∧ (∀ x ∈ k, PyData.strOk x = true) ∧ ∀ H', Same H H' → Q (.bl (cov ks k)) H'
theorem cov_filter (ks : List (List Str)) (k : List Str) : (!decide (ks.filter (fun l => beg k l) = [])) = cov ks k := by
  unfold cov
  rw [Bool.eq_iff_iff, Bool.not_eq_true', decide_eq_false_iff_not, List.any_eq_true, List.filter_eq_nil_iff]
  constructor
  · intro h
    refine Classical.byContradiction fun z => h fun l hl hb => z ⟨l, hl, hb⟩
  · rintro ⟨l, hl, hb⟩ h
    exact h l hl hb
abbrev s_law_covers : Stmt := top 23
theorem sc_law_covers : FnScope ["paths", "path", "one"] ["paths", "path"] (defScope s_law_covers) := ⟨rfl, rfl, rfl, by decide +kernel, rfl, by decide +kernel, by decide +kernel⟩
theorem ok_law_covers (T : Txt mg) (p : Pl K mg "_law_covers" s_law_covers ["paths", "path"] f fd) (D_law_begins : Dfo P w K mg base 1 "_law_begins" ["path", "front"] spBeg) : Dfo P w K mg base 2 "_law_covers" ["paths", "path"] (spCovers K) := by
  have S := sc_law_covers
  refine plo p (p.F.ok S (fun vs H Q E h => ?_) (fun cdv A out s H vs Q E hr h => ?_))
  · obtain ⟨l, t, us, ks, k, rfl, _⟩ := h
    rfl
  · obtain ⟨l, t, us, ks, k, rfl, hS, hp, hok, hl, ht, k1, k2, q⟩ := h
    refine ⟨_, (pss_one (ps_ret (pe_cmpR (op_neD hr.units) (pe_lc (own := [("one", 2)]) rfl S.nd (pi_list (pv 0)) (blkOk_by (own := [("one", 2)]) (N := ["paths", "path", "one"]) (sc := defScope s_law_covers) (by decide +kernel)) (fun _ _ _ _ _ => (pg_name (i := 2) S.nd rfl (.inl rfl))) (fun _ _ _ _ _ => (pts_one (pt_val (po_call D_law_begins (hr.mono (by decide)) (by rfl) (pa_cons (pv 1) (pa_cons (pv 2) pa_nil)))))) (fun _ _ _ _ _ => (pv 2))) (pe_lst pa_nil) (nomark _)))), ?_⟩
    refine ⟨_, rfl, l, rfl, ⟨us, hS⟩, fun D nD => ?_⟩
    refine lc_list (xs := us) (fun i H' => Same H H' ∧ ∃ vs, H' D = some (.lst vs) ∧ PthA H' vs ((ks.take i).filter (fun l => beg k l))) ⟨same_new nD, [], upd_same, .nil⟩ (fun i H' _ hP => hP.1.seq hS) (fun i v H2 hv hP => ?_) (fun H2 hP => ?_)
    · obtain ⟨sm, vs, hD, hvs⟩ := hP
      obtain ⟨t2, k2', rfl, hk2, ht2⟩ := PthA.at_ _ _ _ (hp.mono sm) hv
      have ok2 := hok k2' (List.mem_of_getElem? hk2)
      have ft := filter_take (f := fun l => beg k l) hk2
      have flen := List.length_filter_le (fun l => beg k l) (ks.take i)
      rw [List.length_take] at flen
      have hvl := hvs.len
      refine ⟨rfl, _, rfl, _, rfl, t, t2, k, k2', rfl, sm _ _ ht, ht2, k1, ok2.2.1, k2, ok2.2.2, fun H3 s3 => ⟨_, rfl, ?_⟩⟩
      cases hb : beg k k2' with
      | true =>
        rw [if_pos hb] at ft
        refine iteT ⟨_, rfl, vs, s3 _ _ hD, small1000 (by omega), ExB.put.same nD (sm.trans s3), _, upd_same, ?_⟩
        rw [ft]
        exact ((hvs.mono s3).snoc (s3 _ _ ht2)).exb ExB.put (s3 _ _ hD) (fun ys z => by cases z)
      | false =>
        rw [if_neg (by rw [hb]; exact Bool.false_ne_true), List.append_nil] at ft
        refine iteF ⟨sm.trans s3, vs, s3 _ _ hD, ?_⟩
        rw [ft]
        exact hvs.mono s3
    · obtain ⟨sm, vs, hD, hvs⟩ := hP
      rw [hp.len, List.take_length] at hvs
      refine ⟨(by show 0 ≤ sizeLine; decide), fun e ne => ?_⟩
      have s4 := same_new (o := .lst []) ne
      refine ⟨_, _, .lst (SqL.of (s4 _ _ hD)) (dp_rows (hvs.mono s4)), .lst (SqL.of upd_same) .nil, shaped_rows (fun k' hk' => hok k' (List.mem_filter.mp hk').1), (by decide +kernel), ?_⟩
      have z : (!PyData.eqv (.list ((ks.filter (fun l => beg k l)).map fun k => PyData.tuple (k.map PyData.str))) (.list [])) = cov ks k := by
        have y := eqv_rows (ks.filter (fun l => beg k l)) []
        rw [← cov_filter, ← y]
        rfl
      rw [z]
      exact q _ (sm.trans s4)
/-- a row of addresses and paths -/
theorem rows_of {H : Hp} {vs : List V} {ks : List (List Str)} (h : PthA H vs ks) : ∃ L : List (Addr × List Str), vs = L.map (fun p => V.ref p.1) ∧ ks = L.map Prod.snd ∧ ∀ p ∈ L, H p.1 = some (.tup (p.2.map V.str)) := by
  induction h with
  | nil => exact ⟨[], rfl, rfl, fun _ m => (List.not_mem_nil m).elim⟩
  | @cons t vs k ks a _ ih =>
    obtain ⟨L, rfl, rfl, z⟩ := ih
    refine ⟨(t, k) :: L, rfl, rfl, fun p mp => ?_⟩
    rcases List.mem_cons.mp mp with rfl | mp
    · exact a
    · exact z p mp
theorem of_rows {H : Hp} : ∀ L : List (Addr × List Str), (∀ p ∈ L, H p.1 = some (.tup (p.2.map V.str))) → PthA H (L.map fun p => V.ref p.1) (L.map Prod.snd)
  | [], _ => .nil
  | p :: L, h => .cons (h p List.mem_cons_self) (of_rows L fun q mq => h q (List.mem_cons_of_mem _ mq))
def spFewest (K : PySem.W.Frag) : Sp := fun xs H Q _ => ∃ (l : Addr) (us : List V) (ks : List (List Str)), xs = [.ref l] ∧ SqL K H l us ∧ PthA H us ks ∧ (∀ k ∈ ks, okK k) ∧ ks.length < 64 ∧
  ∀ H' d ws ls, Same H H' → H d = none → H' d = some (.lst ws) → PthA H' ws (fewL ls) → ls.Perm ks → SrtP ls → Q (.ref d) H'
abbrev s_law_fewest : Stmt := top 24
theorem sc_law_fewest : FnScope ["paths", "found", "path"] ["paths"] (defScope s_law_fewest) := ⟨rfl, rfl, rfl, by decide +kernel, rfl, by decide +kernel, by decide +kernel⟩
theorem ok_law_fewest (T : Txt mg) (p : Pl K mg "_law_fewest" s_law_fewest ["paths"] f fd) (D_law_covers : Dfo P w K mg base 2 "_law_covers" ["paths", "path"] (spCovers K)) : Dfo P w K mg base 3 "_law_fewest" ["paths"] (spFewest K) := by
  have S := sc_law_fewest
  refine plo p (p.F.ok S (fun vs H Q E h => ?_) (fun cdv A out s H vs Q E hr h => ?_))
  · obtain ⟨l, us, ks, rfl, _⟩ := h
    rfl
  · obtain ⟨l, us, ks, rfl, hS, hp, hok, hl, q⟩ := h
    refine ⟨_, (pss_cons (ps_set (i := 1) S.nd rfl (.inl rfl) (pe_lst pa_nil))
    (pss_cons (ps_for PassesOwn.never rfl (pi_list (pe_callB (cr_sortTK (P := P) (w := w) rfl rfl rfl) (by rfl) T.b_sorted (by decide +kernel) (pa_cons (pe_callTy (cr_setTK (P := P) (w := w) (K := K) rfl hr.units rfl rfl rfl) (by rfl) T.b_set (by decide +kernel) (pa_cons (pv 0) pa_nil)) pa_nil))) (pg_name (i := 2) S.nd rfl (.inl rfl))
      (pss_one (ps_if (pt_not (pt_truth (po_call D_law_covers (hr.mono (by decide)) (by rfl) (pa_cons (pv 1) (pa_cons (pv 2) pa_nil))) (by intro _; rfl)))
        (pss_one (ps_expr (pe_bm PySem.F.plainAttrs_list PySem.F.slot_list_append PySem.F.type_list_append mt_append (pv 1) (pa_cons (pv 2) pa_nil))))
        pss_nil)))
    (pss_one (ps_ret (pv 1))))), ?_⟩
    obtain ⟨R, rfl, rfl, hR⟩ := rows_of hp
    rw [List.length_map] at hl
    refine ⟨(by show 0 ≤ sizeLine; decide), fun fo nf => ?_⟩
    have s0 := same_new (o := .lst []) nf
    refine ⟨_, rfl, l, R.map (fun p => (p.1, p.2.map Sum.inr)), rfl, ?_, fun p mp => ?_, by rw [List.length_map]; exact hl, fun a L na sub all => ?_⟩
    · rw [List.map_map]
      exact s0.seq hS
    · obtain ⟨p0, m0, rfl⟩ := List.mem_map.mp mp
      show (upd H fo (.lst [])) p0.1 = some (.tup ((p0.2.map Sum.inr).map kV))
      rw [kV_strs]
      exact s0 _ _ (hR p0 m0)
    have sa := same_new (o := TSetO P w a L) na
    -- the set's rows, by their texts
    obtain ⟨LT, rfl, subT⟩ : ∃ LT : List (Addr × List Str), L = LT.map (fun p => (p.1, p.2.map Sum.inr)) ∧ ∀ p ∈ LT, p ∈ R := by
      clear all sa na
      induction L with
      | nil => exact ⟨[], rfl, fun _ m => (List.not_mem_nil m).elim⟩
      | cons x L ih =>
        obtain ⟨LT, rfl, h2⟩ := ih fun p mp => sub p (List.mem_cons_of_mem _ mp)
        obtain ⟨p0, m0, rfl⟩ := List.mem_map.mp (sub x List.mem_cons_self)
        refine ⟨p0 :: LT, rfl, fun p mp => ?_⟩
        rcases List.mem_cons.mp mp with rfl | mp
        · exact m0
        · exact h2 p mp
    have allT : ∀ k, k ∈ LT.map Prod.snd ↔ k ∈ R.map Prod.snd := fun k => by
      constructor
      · intro m
        obtain ⟨p, mp, rfl⟩ := List.mem_map.mp m
        exact List.mem_map.mpr ⟨p, subT p mp, rfl⟩
      · intro m
        obtain ⟨p, mp, rfl⟩ := List.mem_map.mp m
        have z := all _ (List.mem_map.mpr ⟨p, mp, rfl⟩)
        rw [List.map_map] at z
        obtain ⟨r, mr, e⟩ := List.mem_map.mp z
        exact List.mem_map.mpr ⟨r, mr, inr_inj e⟩
    refine ⟨a, LT, rfl, upd_same, fun p mp => ⟨sa _ _ (s0 _ _ (hR p (subT p mp))), (hok _ (List.mem_map.mpr ⟨p, subT p mp, rfl⟩)).1⟩, fun L2 d pm nod srt few nd => ?_⟩
    have sd := same_new (o := .lst (L2.map fun p => V.ref p.1)) nd
    have ed : upd (upd (upd H fo (.lst [])) a (TSetO P w a (LT.map fun p => (p.1, p.2.map Sum.inr)))) d (.lst (L2.map fun p => V.ref p.1)) d = some (.lst (L2.map fun p => V.ref p.1)) := upd_same
    have s3 := s0.trans (sa.trans sd)
    have efo := sd _ _ (sa _ _ (upd_same (H := H) (a := fo) (o := .lst [])))
    have fd2 : d ≠ fo := fun z => by
      have y := sa _ _ (upd_same (H := H) (a := fo) (o := .lst []))
      rw [z, y] at nd
      cases nd
    generalize upd (upd (upd H fo (.lst [])) a (TSetO P w a (LT.map fun p => (p.1, p.2.map Sum.inr)))) d (.lst (L2.map fun p => V.ref p.1)) = H1 at sd ed s3 efo ⊢
    have hw : PthA H1 (L2.map fun p => V.ref p.1) (L2.map Prod.snd) := of_rows L2 fun p mp => s3 _ _ (hR p (subT p (pm.mem_iff.mp mp)))
    have mem2 : ∀ k, k ∈ L2.map Prod.snd ↔ k ∈ R.map Prod.snd := fun k => (pm.map Prod.snd).mem_iff.trans (allT k)
    have ok2 : ∀ k ∈ L2.map Prod.snd, okK k := fun k hk => hok k ((mem2 k).mp hk)
    have len2 : (L2.map Prod.snd).length < 64 := by rw [List.length_map]; exact few
    generalize L2.map Prod.snd = ls at hw mem2 ok2 len2 srt
    generalize L2.map (fun p => V.ref p.1) = ws at hw ed
    clear sa pm all allT subT sub nod few sd nd
    refine ⟨d, rfl, ⟨_, SqL.of ed⟩, ?_⟩
    refine for_list (xs := ws) (fun i σ H' => ExB fo H1 H' ∧ (∃ us, H' fo = some (.lst us) ∧ PthA H' us (foldC (ls.take i))) ∧ ∃ y, σ = [some (.ref l), some (.ref fo), y]) ⟨ExB.refl _ _, ⟨[], efo, .nil⟩, none, rfl⟩ (fun i σ H' _ hP => SqL.of (hP.1 _ _ fd2 ed)) (fun i x σ H2 hx hP => ?_) (fun σ H2 hP => ?_)
    · obtain ⟨x2, ⟨us, hf, hu⟩, y, rfl⟩ := hP
      have hw2 := hw.exb x2 efo (fun ys z => by cases z)
      obtain ⟨t, k, rfl, hk, ht⟩ := PthA.at_ _ _ _ hw2 hx
      obtain ⟨k0, k1, k2⟩ := ok2 k (List.mem_of_getElem? hk)
      have st := foldC_take hk
      have ln := foldC_len (ls.take i) []
      rw [List.length_take] at ln
      have z0 : ([] : List (List Str)).length = 0 := rfl
      have okg : ∀ l ∈ foldC (ls.take i), okK l := fun l hl => by
        rcases foldC_mem _ _ hl with z | z
        · cases z
        · exact ok2 l (List.mem_of_mem_take z)
      have lg : (foldC (ls.take i)).length ≤ 64 := by
        show ((ls.take i).foldl addC []).length ≤ 64
        omega
      generalize foldC (ls.take i) = g at hu st okg lg
      refine ⟨_, rfl, _, rfl, fo, t, us, g, k, rfl, SqL.of hf, hu, okg, by omega, ht, k1, k2, fun H3 s3 => ⟨_, rfl, ?_⟩⟩
      have hul := hu.len
      unfold addC at st
      cases hc : cov g k with
      | true =>
        rw [hc, if_pos rfl] at st
        refine iteF ?_
        rw [st]
        exact ⟨x2.trans (ExB.of s3), ⟨us, s3 _ _ hf, hu.mono s3⟩, _, rfl⟩
      | false =>
        rw [hc, if_neg Bool.false_ne_true] at st
        refine iteT ⟨_, rfl, .inl ⟨rfl, _, SqL.of (s3 _ _ hf)⟩, _, rfl, fo, _, _, rfl, rfl, s3 _ _ hf, small1000 (by omega), ?_⟩
        have xD : ExB fo H3 (upd H3 fo (.lst (us ++ [.ref t]))) := ExB.put
        rw [st]
        exact ⟨(x2.trans (ExB.of s3)).trans xD, ⟨_, upd_same, ((hu.mono s3).snoc (s3 _ _ ht)).exb xD (s3 _ _ hf) (fun ys z => by cases z)⟩, _, rfl⟩
    · obtain ⟨x2, ⟨us, hf, hu⟩, y, rfl⟩ := hP
      rw [hw.len, List.take_length] at hu
      obtain ⟨ls0, p0, so0⟩ := srt_exists (R.map Prod.snd)
      rw [foldC_few mem2 srt p0 so0] at hu
      exact ⟨_, rfl, q _ fo us ls0 (x2.same nf s3) nf hf hu p0 so0⟩
end
end KF
set_option maxHeartbeats 8000000
namespace K09
open PySem PySem.Spec PyProof.Rows L2 Zk Zs Zo Zd Zx K14
/-- what lets nothing out may be called where exceptions are awaited -/
theorem fn_lift {P : Program} {w : World} {K : PySem.W.Frag} {mg : Str → Option Value} {base : Heap} {CX : CXT} {k : Nat} {f : Addr} {fd : FuncData} {ps : List Str} {sp : Sp} (F : FnOk P w K mg base CX0 k f fd ps sp) : FnOk P w K mg base CX k f fd ps sp := by
  refine ⟨F.len, fun A out s H ar us vs Q E hr e0 b v h => codeAny_mono (F.run A out s H ar us vs Q E hr e0 b v h) fun r s' hq => ?_⟩
  match r, hq with
  | .error e, hq => exact (show False from hq).elim
  | .ok (.ret u), hq => exact hq
  | .ok .next, hq => exact hq
  | .ok .brk, hq => exact hq
  | .ok .cont, hq => exact hq
/-- two promises of one def -/
def spOr2 (sp sp' : Sp) : Sp := fun vs H Q E => sp vs H Q E ∨ sp' vs H Q E
theorem fn_or {P : Program} {w : World} {K : PySem.W.Frag} {mg : Str → Option Value} {base : Heap} {CX : CXT} {k : Nat} {f : Addr} {fd : FuncData} {ps : List Str} {sp sp' : Sp} (F : FnOk P w K mg base CX k f fd ps sp) (G : FnOk P w K mg base CX k f fd ps sp') : FnOk P w K mg base CX k f fd ps (spOr2 sp sp') :=
  ⟨fun vs H Q E h => h.elim (F.len vs H Q E) (G.len vs H Q E), fun A out s H ar us vs Q E hr e0 b v h => h.elim (F.run A out s H ar us vs Q E hr e0 b v) (G.run A out s H ar us vs Q E hr e0 b v)⟩
/-- C(e, ..) of an own __init__, the new exception's context None -/
theorem pmk_oexN {X : Cx} {x : Str} {e : Expr} {es : List Expr} {ta : TA} {p pos : Pos} {CB fI : Addr} {k : Nat} {fd : FuncData} {ps : List Str} {sp : Sp} (T : OexC X.K CB) (iC : PySem.W.findIn X.K (.ref CB) "__init__" = some (some (.ref fI))) (tI : PySem.W.typeIn X.K (.ref fI) = some (.type "function"))
    (F1 : FnOk X.prog X.w X.K X.mg X.base CX0 k fI fd ps sp) (hr : Room (k + 1) X.A) (hb : Binds X.K fd ps []) (hg : Gl X x) (hm : X.mg x = some (.ref CB)) (ha : PA X (e :: es) ta)
    (hdb : (x == ("__debug__" : Str)) = false := by decide) (he : starEach (e :: es) X.env = (false, eval e X.env) :: starEach es X.env := by rfl) (hpl : (backTo pos (starEach es X.env)).any (·.1) = false := by rfl) :
    L2N.PMk X (.Call (.Name x p) (e :: es) [] pos) (tMkO CB sp [] ta) := by
  intro pins s0 σ H0 Q I0 h0
  obtain ⟨nm, qn, N, bs, bm, sn, sub, ab, col, dd, k0, k1, k2, k3, k5, hC, hbm⟩ := T.cls
  refine wpAny_Call_Name_kw (ld_glob I0 hg hm ?_ hdb)
  refine PySem.W.callWith_K (h₀ := X.base) I0.ok.mod.kin T.kC (thn (ha.run pos pins s0 σ H0 _ I0 h0) fun us s1 z1 => ?_) he hpl
  obtain ⟨vs, H1, I1, r1, hz, q1⟩ := z1
  refine ⟨I1.kIn, ?_⟩
  obtain ⟨hp, g, dr, tk, os⟩ := s1
  have up : hp.objs.size ≤ hp.objs.size + 1 := Nat.le_succ _
  have na : H1 (hp.objs.size + 1) = none := I1.hok.fresh up
  have go := q1 _ na
  rw [List.append_nil] at go
  have old : ∀ b o, hp.get? b = some o → ((hp.push (PySem.W.kdv_tup us)).push (PySem.HandSPX.excO CB hp.objs.size)).get? b = some o := fun b o z => Heap.get?_push_of_some _ (Heap.get?_push_of_some _ z)
  have new : ((hp.push (PySem.W.kdv_tup us)).push (PySem.HandSPX.excO CB hp.objs.size)).get? (hp.objs.size + 1) = some (PySem.HandSPX.excO CB hp.objs.size) := by heap_get
  have I2 : Inv X pins σ (upd H1 (hp.objs.size + 1) (exo (hp.objs.size + 1) CB none)) ⟨(hp.push (PySem.W.kdv_tup us)).push (PySem.HandSPX.excO CB hp.objs.size), g, dr, tk, os⟩ :=
    I1.laid (t' := tk) (a := hp.objs.size + 1) (o := exo (hp.objs.size + 1) CB none) (h' := (hp.push (PySem.W.kdv_tup us)).push (PySem.HandSPX.excO CB hp.objs.size)) old up (exo_ok new)
  have r2 : Vals (V.ref (hp.objs.size + 1) :: vs) (Value.ref (hp.objs.size + 1) :: us) := .cons rfl r1
  have n1 : us.length ≤ sizeLine := by
    rw [← Paired.length r1, sizeLine_eq]
    omega
  have n2 : (Value.ref (hp.objs.size + 1) :: us ++ []).length = ps.length := by
    rw [List.append_nil, ← r2.length]
    exact F1.len _ _ _ _ go
  have b2 := hb ⟨(hp.push (PySem.W.kdv_tup us)).push (PySem.HandSPX.excO CB hp.objs.size), g, dr, tk, os⟩ (Value.ref (hp.objs.size + 1) :: us) I2.kIn n2
  rw [List.append_nil] at b2
  have back : ∀ (r : Result) (s' : Shared), CR CX0 X.stack X.prog X.w (upd H1 (hp.objs.size + 1) (exo (hp.objs.size + 1) CB none)) ⟨(hp.push (PySem.W.kdv_tup us)).push (PySem.HandSPX.excO CB hp.objs.size), g, dr, tk, os⟩
      (fun v H2 => v = .non ∧ ∃ (d : Addr) (fs : List (Str × V)), H2 (hp.objs.size + 1) = some (exo (hp.objs.size + 1) CB (some d)) ∧ H2 d = some (exd d fs) ∧ H1 d = none ∧ Q (.ref CB) (some d) (upd (del H2 (hp.objs.size + 1)) d (.xd fs))) (fun _ _ _ => False) r s' →
      PySem.W.InitBack (hp.objs.size + 1) (fun r s' => match r with | .ok (.ret v) => L2N.MkP X pins σ Q v s' | .ok _ => False | .error e => X.xe e s') r s' := by
    intro r s' z
    match r, z with
    | .error e, z => exact (show False from z).elim
    | .ok .next, z => exact False.elim z
    | .ok .brk, z => exact False.elim z
    | .ok .cont, z => exact False.elim z
    | .ok (.ret u), z =>
      obtain ⟨v, H2, os2, bare2, un2, hok2, rv, rfl, d, fs, ea, ed, hd1, q2⟩ := z
      obtain ⟨h2, g2, d2, t2, os'⟩ := s'
      obtain ⟨t0, G, J, kG, ge, hoe, na2⟩ := mk_end0 (d2 := d2) (t2 := t2) I1 up old un2 hok2 os2 bare2 ea ed hd1
      refine ⟨rv, hp.objs.size + 1, _, _, ⟨G, g2, d2, t2, os'⟩, _, .ref CB, some d, rfl, J, kG, ge, hoe, ⟨rfl, rfl, fun ws hw => ?_⟩, rfl, rfl, na2, rfl, bare2, raises_own T.exC T.tyC, q2⟩
      cases hw
      rfl
  exact wpAny_call (PySem.HandSPX.call_own F.excBase_ValueError (fun Y => PySem.HandSPX.refsVE_contains Y bm hbm) (I1.kIn _ _ hC) (PySem.W.looks_findIn I1.kIn iC) (fun self => PySem.W.bind_fn I1.kIn self tI) n1
    (codeAny_mono (F1.run _ X.stack _ _ ⟨Value.ref (hp.objs.size + 1) :: us, []⟩ (Value.ref (hp.objs.size + 1) :: us) _ _ _ (hr.make CB us []) (I2.env0.make CB us []) b2 r2 go) back))
theorem pss_never {X : Cx} {st : List Stmt} : PSs X st (fun _ _ _ => False) := ⟨fun _ _ _ _ _ _ h => h.elim⟩
/-- a mask of paths of which one is none: the first such one goes out with BadMask -/
def spBad (K : PySem.W.Frag) (C CB : Addr) : Sp := fun vs H Q E => ∃ (x dx p : Addr) (us : List V) (ds : List PyData) (i : Nat) (v : V) (d : PyData), vs = [.ref x, .ref p] ∧ H x = some (.ins C dx []) ∧ (SqL K H p us ∨ SqT K H p us) ∧ DxA H us ds ∧ (∀ d ∈ ds, okR d) ∧
  us[i]? = some v ∧ ds[i]? = some d ∧ mpD d = false ∧ (∀ j e, j < i → ds[j]? = some e → mpD e = true) ∧ ∀ H' dd, Same H H' → H' dd = some (.xd [(("value" : Str), v)]) → E (.ref CB) (some dd) H'
section
variable {P : Program} {w : World} {K : PySem.W.Frag} {mg : Str → Option Value} {base : Heap} {f C CB : Addr} {fd : FuncData}
/-- the reading of raise BadMask(v) -/
theorem raised {H : Hp} {v : V} {E : XK} (hE : ∀ H' dd, Same H H' → H' dd = some (.xd [(("value" : Str), v)]) → E (.ref CB) (some dd) H') (a : Addr) (na : H a = none) :
    spIni CB "value" [.ref a, v] (upd H a (exo a CB none)) (fun u H2 => u = .non ∧ ∃ (d : Addr) (fs : List (Str × V)), H2 a = some (exo a CB (some d)) ∧ H2 d = some (exd d fs) ∧ H d = none ∧ E (.ref CB) (some d) (upd (del H2 a) d (.xd fs))) (fun _ _ _ => False) := by
  refine ⟨a, v, rfl, upd_same, fun d nd da => ⟨rfl, d, [("value", v)], upd_same, ?_, ?_, ?_⟩⟩
  · rw [upd_ne da, upd_same]
  · rw [upd_ne da] at nd
    exact nd
  · have nd0 : H d = none := by
      rw [upd_ne da] at nd
      exact nd
    refine hE _ d (fun b o e => ?_) upd_same
    rw [upd_ne (ne_of_none e nd0), del_ne (ne_of_none e na), upd_ne (ne_of_none e na), upd_ne (ne_of_none e nd0), upd_ne (ne_of_none e na)]
    exact e
theorem ok_Mask_init_bad (T : Txt mg) (M : Mc K mg C) (B : Er P w K mg base "BadMask" CB "value") {dvs : List V} (F : FunD K "__init__" "Mask.__init__" (defArgs s_Mask_init) (defBody s_Mask_init) (defScope s_Mask_init) dvs [] f fd) (D_is_mask_path : Dfo P w K mg base 4 "is_mask_path" ["value"] spM) : FnOk P w K mg base (L2N.CX P w) 5 f fd ["self", "paths"] (spBad K C CB) := by
  have S := sc_Mask_init
  refine F.ok S (fun vs H Q E h => ?_) (fun cdv A out s H vs Q E hr h => ?_)
  · obtain ⟨x, dx, p, us, ds, i, v, d, rfl, _⟩ := h
    rfl
  · obtain ⟨x, dx, p, us, ds, i, v, d, rfl, hx, hS, hd, hok, hi, hdi, hbad, hgood, hE⟩ := h
    obtain ⟨fI, fe, iC, tI, FI, bI, _⟩ := B.ini
    have tk : L2N.Takes (cxOf (L2N.CX P w) P w K mg base ["self", "paths", "path"] "Mask.__init__" (defScope s_Mask_init) f cdv A out s H E) (fun cls d _ H => E cls d H) := L2N.takes_of rfl rfl rfl rfl
    have po : PassesOwn (model P w) (cxOf (L2N.CX P w) P w K mg base ["self", "paths", "path"] "Mask.__init__" (defScope s_Mask_init) f cdv A out s H E).A (cxOf (L2N.CX P w) P w K mg base ["self", "paths", "path"] "Mask.__init__" (defScope s_Mask_init) f cdv A out s H E).env (cxOf (L2N.CX P w) P w K mg base ["self", "paths", "path"] "Mask.__init__" (defScope s_Mask_init) f cdv A out s H E).xe := passes_of (X := cxOf (L2N.CX P w) P w K mg base ["self", "paths", "path"] "Mask.__init__" (defScope s_Mask_init) f cdv A out s H E) rfl
    rcases hS with hS | hS
    · refine ⟨_, (pss_cons (ps_for po rfl (pi_list (pv 1)) (pg_name (i := 2) S.nd rfl (.inl rfl))
        (pss_one (ps_if (pt_not (pt_val (po_call D_is_mask_path (hr.mono (by decide)) (by rfl) (pa_cons (pv 2) pa_nil))))
          (pss_one (L2N.ps_raise rfl tk (pmk_oexN B.oex iC tI FI (hr.mono (by decide)) bI (by rfl) B.m (pa_cons (pv 2) pa_nil))))
          pss_nil)))
        pss_never), ?_⟩
      refine ⟨_, rfl, p, rfl, ⟨us, hS⟩, for_it (walk_list (xs := us)) (fun j σ H' => j ≤ i ∧ Same H H' ∧ ∃ y, σ = [some (.ref x), some (.ref p), y]) ⟨Nat.zero_le _, Same.refl _, none, rfl⟩ (fun j σ H' _ hP => hP.2.1.seq hS) (fun j v' σ H1 H2 hj hP hy => ?_) (fun σ H2 hP => ?_)⟩
      · obtain ⟨rfl, hv⟩ := hy
        obtain ⟨le, sm, y, rfl⟩ := hP
        obtain ⟨e, he, hde⟩ := DxA.at_ _ _ _ (hd.mono sm) hv
        refine ⟨_, rfl, _, _, rfl, hde, hok e (List.mem_of_getElem? he), fun H3 s3 => ⟨_, rfl, ?_⟩⟩
        have s13 := sm.trans s3
        rcases Nat.lt_or_ge j i with lt | ge
        · rw [hgood j e lt he]
          exact iteF ⟨lt, s13, _, rfl⟩
        · have ji : j = i := Nat.le_antisymm le ge
          subst ji
          rw [hv] at hi
          obtain rfl := Option.some.inj hi
          rw [he] at hdi
          obtain rfl := Option.some.inj hdi
          rw [hbad]
          refine iteT ⟨_, rfl, (by show 1 ≤ 1000; decide), fun a na => raised (fun H' dd s4 hx4 => hE H' dd (s13.trans s4) hx4) a na⟩
      · obtain ⟨le, _⟩ := hP
        obtain ⟨lt, _⟩ := List.getElem?_eq_some_iff.mp hi
        exact absurd lt (by omega)
    · refine ⟨_, (pss_cons (ps_for po rfl (pi_tup (pv 1)) (pg_name (i := 2) S.nd rfl (.inl rfl))
        (pss_one (ps_if (pt_not (pt_val (po_call D_is_mask_path (hr.mono (by decide)) (by rfl) (pa_cons (pv 2) pa_nil))))
          (pss_one (L2N.ps_raise rfl tk (pmk_oexN B.oex iC tI FI (hr.mono (by decide)) bI (by rfl) B.m (pa_cons (pv 2) pa_nil))))
          pss_nil)))
        pss_never), ?_⟩
      refine ⟨_, rfl, p, rfl, ⟨us, hS⟩, for_it (walk_tup (xs := us)) (fun j σ H' => j ≤ i ∧ Same H H' ∧ ∃ y, σ = [some (.ref x), some (.ref p), y]) ⟨Nat.zero_le _, Same.refl _, none, rfl⟩ (fun j σ H' _ hP => same_seqT hP.2.1 hS) (fun j v' σ H1 H2 hj hP hy => ?_) (fun σ H2 hP => ?_)⟩
      · obtain ⟨rfl, hv⟩ := hy
        obtain ⟨le, sm, y, rfl⟩ := hP
        obtain ⟨e, he, hde⟩ := DxA.at_ _ _ _ (hd.mono sm) hv
        refine ⟨_, rfl, _, _, rfl, hde, hok e (List.mem_of_getElem? he), fun H3 s3 => ⟨_, rfl, ?_⟩⟩
        have s13 := sm.trans s3
        rcases Nat.lt_or_ge j i with lt | ge
        · rw [hgood j e lt he]
          exact iteF ⟨lt, s13, _, rfl⟩
        · have ji : j = i := Nat.le_antisymm le ge
          subst ji
          rw [hv] at hi
          obtain rfl := Option.some.inj hi
          rw [he] at hdi
          obtain rfl := Option.some.inj hdi
          rw [hbad]
          refine iteT ⟨_, rfl, (by show 1 ≤ 1000; decide), fun a na => raised (fun H' dd s4 hx4 => hE H' dd (s13.trans s4) hx4) a na⟩
      · obtain ⟨le, _⟩ := hP
        obtain ⟨lt, _⟩ := List.getElem?_eq_some_iff.mp hi
        exact absurd lt (by omega)
end
end K09
set_option maxHeartbeats 8000000
namespace K09
open PySem PySem.Spec PyProof.Rows L2 Zk Zs Zo Zd Zx K14
/-! ### odd values -/
def ODDS : List PyData := [.tuple [], .list [], .list [.str "a"], .str "a", .none, .int 5, .tuple [.str "a", .str ""], .tuple [.str "A"], .tuple [.str "a", .int 5], .tuple [.str "abcdefghi"], .tuple [.tuple [.str "a"]], .dict [], .bool true, .tuple [.str "a b"], .tuple [.str "a", .none], .tuple [.str "1"]]
def okRb : PyData → Bool
  | .tuple ds => decide (ds.length ≤ 1000) && ds.all fun e => match e with | .str x => decide (x.length ≤ 1000) | _ => true
  | _ => true
theorem okRb_ok {d : PyData} (h : okRb d = true) : okR d := by
  intro ds e
  subst e
  have z : (decide (ds.length ≤ 1000) && ds.all fun e => match e with | .str x => decide (x.length ≤ 1000) | _ => true) = true := h
  rw [Bool.and_eq_true, decide_eq_true_eq, List.all_eq_true] at z
  refine ⟨z.1, fun e he x ex => ?_⟩
  subst ex
  have y := z.2 _ he
  exact of_decide_eq_true y
def oddB (d : PyData) : Bool := !mpD d && okRb d && (PyData.list [d]).showable && decide ((PyData.list [d]).shown.length ≤ 1000) && decide ((PyData.list [d]).depth ≤ 40)
structure Odd (d : PyData) : Prop where
  no : mpD d = false
  ok : okR d
  sh : (PyData.list [d]).showable = true
  sz : (PyData.list [d]).shown.length ≤ sizeLine
  dp : (PyData.list [d]).depth ≤ 40
theorem odd_of {d : PyData} (h : oddB d = true) : Odd d := by
  unfold oddB at h
  simp only [Bool.and_eq_true, decide_eq_true_eq, Bool.not_eq_true'] at h
  obtain ⟨⟨⟨⟨h1, h2⟩, h3⟩, h4⟩, h5⟩ := h
  exact ⟨h1, okRb_ok h2, h3, Nat.le_trans h4 (by decide), h5⟩
theorem odds_ok : ODDS.all oddB = true := by decide +kernel
theorem odds {d : PyData} (h : d ∈ ODDS) : Odd d := odd_of (List.all_eq_true.mp odds_ok d h)
theorem dxa_mem {H : Hp} : ∀ {vs : List V} {ds : List PyData} {v : V}, DxA H vs ds → v ∈ vs → ∃ d, d ∈ ds ∧ Dx H v d
  | _, _, _, .nil, h => by cases h
  | _, _, _, .cons h r, m => by
    rcases List.mem_cons.mp m with rfl | m
    · exact ⟨_, List.mem_cons_self, h⟩
    · obtain ⟨d, hd, x⟩ := dxa_mem r m
      exact ⟨d, List.mem_cons_of_mem _ hd, x⟩
theorem hid_at {p a : Addr} {H : Hp} {o : HO} (n : p ≠ a) (h : H a = some o) : hid p H a = some o := by
  rw [hid_ne n.symm]
  exact h
theorem well_ne {H : Hp} {p a : Addr} (w : WellAt H p) (n : H a = none) : p ≠ a := by
  obtain ⟨_, _, e, _⟩ := w
  exact ne_of_none e n
def spOdd : Sp := fun vs H Q _ => ∃ p, vs = [.ref p] ∧ WellAt H p ∧ ∀ H' v d, ExB p H H' → WellAt H' p → Dx (hid p H') v d → d ∈ ODDS → Q v H'
section
variable {P : Program} {w : World} {K : PySem.W.Frag} {mg : Str → Option Value} {base : Heap} {f C CB : Addr} {fd : FuncData}
abbrev s_law_odd : Stmt := top 26
theorem sc_law_odd : FnScope ["tape", "some"] ["tape"] (defScope s_law_odd) := ⟨rfl, rfl, rfl, by decide +kernel, rfl, by decide +kernel, by decide +kernel⟩
theorem ok_law_odd (T : Txt mg) (p : Pl K mg "_law_odd" s_law_odd ["tape"] f fd) (D_law_one_of : Dfo P w K mg base 2 "_law_one_of" ["tape", "items"] (spChoose K)) : Dfo P w K mg base 3 "_law_odd" ["tape"] spOdd := by
  have S := sc_law_odd
  refine plo p (p.F.ok S (fun vs H Q E h => ?_) (fun cdv A out s H vs Q E hr h => ?_))
  · obtain ⟨p, rfl, _⟩ := h
    rfl
  · obtain ⟨p, rfl, w0, q⟩ := h
    refine ⟨_, (pss_cons (ps_set (i := 1) S.nd rfl (.inl rfl) (pe_lst (pa_cons (pe_tup pa_nil) (pa_cons (pe_lst pa_nil) (pa_cons (pe_lst (pa_cons pe_str pa_nil)) (pa_cons pe_str (pa_cons pe_non (pa_cons pe_int (pa_cons (pe_tup (pa_cons pe_str (pa_cons pe_str pa_nil))) (pa_cons (pe_tup (pa_cons pe_str pa_nil)) (pa_cons (pe_tup (pa_cons pe_str (pa_cons pe_int pa_nil))) (pa_cons (pe_tup (pa_cons pe_str pa_nil)) pa_nil))))))))))))
    (pss_one (ps_ret (po_call D_law_one_of (hr.mono (by decide)) (by rfl) (pa_cons (pv 0) (pa_cons (pe_op op_cat (pv 1) (pe_lst (pa_cons (pe_tup (pa_cons (pe_tup (pa_cons pe_str pa_nil)) pa_nil)) (pa_cons pe_dnewK (pa_cons pe_bl (pa_cons (pe_tup (pa_cons pe_str pa_nil)) (pa_cons (pe_tup (pa_cons pe_str (pa_cons pe_non pa_nil))) (pa_cons (pe_tup (pa_cons pe_str pa_nil)) pa_nil)))))))) pa_nil)))))), ?_⟩
    refine ⟨Nat.zero_le _, fun a1 m1 => ?_⟩
    have p1 := well_ne w0 m1
    have S1 := same_new (o := .tup []) m1
    have w1 := w0.same S1
    refine ⟨Nat.zero_le _, fun a2 m2 => ?_⟩
    have p2 := well_ne w1 m2
    have S2 := same_new (o := .lst []) m2
    have w2 := w1.same S2
    refine ⟨(by show 1 ≤ sizeLine; decide), fun a3 m3 => ?_⟩
    have p3 := well_ne w2 m3
    have S3 := same_new (o := .lst [.str "a"]) m3
    have w3 := w2.same S3
    refine ⟨(by show 2 ≤ sizeLine; decide), fun a4 m4 => ?_⟩
    have p4 := well_ne w3 m4
    have S4 := same_new (o := .tup [.str "a", .str ""]) m4
    have w4 := w3.same S4
    refine ⟨(by show 1 ≤ sizeLine; decide), fun a5 m5 => ?_⟩
    have p5 := well_ne w4 m5
    have S5 := same_new (o := .tup [.str "A"]) m5
    have w5 := w4.same S5
    refine ⟨(by show 2 ≤ sizeLine; decide), fun a6 m6 => ?_⟩
    have p6 := well_ne w5 m6
    have S6 := same_new (o := .tup [.str "a", .int 5]) m6
    have w6 := w5.same S6
    refine ⟨(by show 1 ≤ sizeLine; decide), fun a7 m7 => ?_⟩
    have p7 := well_ne w6 m7
    have S7 := same_new (o := .tup [.str "abcdefghi"]) m7
    have w7 := w6.same S7
    refine ⟨(by show 10 ≤ sizeLine; decide), fun a8 m8 => ?_⟩
    have p8 := well_ne w7 m8
    have S8 := same_new (o := .lst [.ref a1, .ref a2, .ref a3, .str "a", .non, .int 5, .ref a4, .ref a5, .ref a6, .ref a7]) m8
    have w8 := w7.same S8
    refine ⟨_, rfl, _, rfl, ?_⟩
    refine ⟨(by show 1 ≤ sizeLine; decide), fun a9 m9 => ?_⟩
    have p9 := well_ne w8 m9
    have S9 := same_new (o := .tup [.str "a"]) m9
    have w9 := w8.same S9
    refine ⟨(by show 1 ≤ sizeLine; decide), fun a10 m10 => ?_⟩
    have p10 := well_ne w9 m10
    have S10 := same_new (o := .tup [.ref a9]) m10
    have w10 := w9.same S10
    refine fun a11 m11 => ?_
    have p11 := well_ne w10 m11
    have S11 := same_new (o := .dK []) m11
    have w11 := w10.same S11
    refine ⟨(by show 1 ≤ sizeLine; decide), fun a12 m12 => ?_⟩
    have p12 := well_ne w11 m12
    have S12 := same_new (o := .tup [.str "a b"]) m12
    have w12 := w11.same S12
    refine ⟨(by show 2 ≤ sizeLine; decide), fun a13 m13 => ?_⟩
    have p13 := well_ne w12 m13
    have S13 := same_new (o := .tup [.str "a", .non]) m13
    have w13 := w12.same S13
    refine ⟨(by show 1 ≤ sizeLine; decide), fun a14 m14 => ?_⟩
    have p14 := well_ne w13 m14
    have S14 := same_new (o := .tup [.str "1"]) m14
    have w14 := w13.same S14
    refine ⟨(by show 6 ≤ sizeLine; decide), fun a15 m15 => ?_⟩
    have p15 := well_ne w14 m15
    have S15 := same_new (o := .lst [.ref a10, .ref a11, .bl true, .ref a12, .ref a13, .ref a14]) m15
    have w15 := w14.same S15
    have R15 := S15
    have R14 := S14.trans R15
    have R13 := S13.trans R14
    have R12 := S12.trans R13
    have R11 := S11.trans R12
    have R10 := S10.trans R11
    have R9 := S9.trans R10
    have R8 := S8.trans R9
    have R7 := S7.trans R8
    have R6 := S6.trans R7
    have R5 := S5.trans R6
    have R4 := S4.trans R5
    have R3 := S3.trans R4
    have R2 := S2.trans R3
    have R1 := S1.trans R2
    refine ⟨a8, a15, _, _, rfl, rfl, R9 _ _ upd_same, upd_same, (by show 10 + 6 ≤ sizeLine; decide), fun l n0 => ?_⟩
    have U := same_new (o := .lst ([.ref a1, .ref a2, .ref a3, .str "a", .non, .int 5, .ref a4, .ref a5, .ref a6, .ref a7] ++ [.ref a10, .ref a11, .bl true, .ref a12, .ref a13, .ref a14])) n0
    have wz := w15.same U
    have at_ : ∀ {a : Addr} {o : HO}, p ≠ a → _ → hid p _ a = some o := fun {a o} n h => hid_at n (U a o h)
    have dx : DxA (hid p (upd _ l _)) _ ODDS :=
      .cons (.tup (.inl (at_ p1 (R2 _ _ upd_same))) .nil)
      (.cons (.lst (.inl (at_ p2 (R3 _ _ upd_same))) .nil)
      (.cons (.lst (.inl (at_ p3 (R4 _ _ upd_same))) (.cons (.str _) .nil))
      (.cons (.str _)
      (.cons (.non)
      (.cons (.int _)
      (.cons (.tup (.inl (at_ p4 (R5 _ _ upd_same))) (.cons (.str _) (.cons (.str _) .nil)))
      (.cons (.tup (.inl (at_ p5 (R6 _ _ upd_same))) (.cons (.str _) .nil))
      (.cons (.tup (.inl (at_ p6 (R7 _ _ upd_same))) (.cons (.str _) (.cons (.int _) .nil)))
      (.cons (.tup (.inl (at_ p7 (R8 _ _ upd_same))) (.cons (.str _) .nil))
      (.cons (.tup (.inl (at_ p10 (R11 _ _ upd_same))) (.cons (.tup (.inl (at_ p9 (R10 _ _ upd_same))) (.cons (.str _) .nil)) .nil))
      (.cons (.dic (.inl (at_ p11 (R12 _ _ upd_same))) .nil)
      (.cons (.bl _)
      (.cons (.tup (.inl (at_ p12 (R13 _ _ upd_same))) (.cons (.str _) .nil))
      (.cons (.tup (.inl (at_ p13 (R14 _ _ upd_same))) (.cons (.str _) (.cons .non .nil)))
      (.cons (.tup (.inl (at_ p14 (R15 _ _ upd_same))) (.cons (.str _) .nil))
      .nil)))))))))))))))
    refine ⟨p, l, _, rfl, wz, SqL.of upd_same, (fun z => by cases z), (by show 16 ≤ 1000000; decide), fun H' v e2 w' hv => ?_⟩
    obtain ⟨d, hdm, hdx⟩ := dxa_mem dx hv
    exact q _ _ d ((ExB.of (R1.trans U)).trans e2) w' (hdx.mono e2.hid) hdm
end
end K09
set_option maxHeartbeats 8000000
namespace K09
open PySem PySem.Spec PyProof.Rows L2 Zk Zs Zo Zd Zx K14
/-- C(e, ..), where what __init__ lets out is awaited at these slots -/
def tMakeS (C : Addr) (sp : Sp) (E : L2.St → XK) (t : TA) : TE := fun σ H Q => t σ H fun vs H1 => ∀ x dx, H1 x = none → H1 dx = none → dx ≠ x → sp (.ref x :: vs) (upd (upd H1 dx (.own x)) x (.ins C dx [])) (fun v H2 => v = .non ∧ Q (.ref x) H2) (E σ)
theorem pe_makeS {X : Cx} {CX : CXT} {k : Nat} {f C : Addr} {fd : FuncData} {ps : List Str} {sp : Sp} {E : L2.St → XK} {x : Str} {p pos : Pos} {e : Expr} {es : List Expr} {t : TA} (M : Mk X.K C f) (F : FnOk X.prog X.w X.K X.mg X.base CX k f fd ps sp) (hr : Room (k + 1) X.A) (hg : Gl X x)
    (hm : X.mg x = some (.ref C)) (hb : Binds X.K fd ps []) (hx : ∀ σ, PassesAt CX X σ (E σ)) (ha : PA X (e :: es) t) (hdb : (x == ("__debug__" : Str)) = false := by decide) (he : starEach (e :: es) X.env = (false, eval e X.env) :: starEach es X.env := by rfl)
    (hpl : (backTo pos (starEach es X.env)).any (·.1) = false := by rfl) : PE X (.Call (.Name x p) (e :: es) [] pos) (tMakeS C sp E t) := by
  constructor
  intro pins s0 σ H0 Q I0 h0
  refine wpAny_Call_Name_kw (ld_glob I0 hg hm ?_ hdb)
  refine PySem.W.callWith_K (h₀ := X.base) I0.ok.mod.kin M.kp (thn (ha.run pos pins s0 σ H0 _ I0 h0) fun us s z => ?_) he hpl
  obtain ⟨vs, H1, I, r, q⟩ := z
  refine ⟨I.kIn, ?_⟩
  have go := q (s.heap.objs.size + 1) s.heap.objs.size (I.hok.fresh (Nat.le_succ _)) (I.hok.fresh (Nat.le_refl _)) (Nat.ne_of_lt (Nat.lt_succ_self _))
  have J := Inv.made (C := C) I
  have r2 : Vals (V.ref (s.heap.objs.size + 1) :: vs) (Value.ref (s.heap.objs.size + 1) :: us) := .cons rfl r
  have n2 : (Value.ref (s.heap.objs.size + 1) :: us ++ []).length = ps.length := by
    rw [List.append_nil, ← r2.length]
    exact F.len _ _ _ _ go
  have b2 := hb _ (Value.ref (s.heap.objs.size + 1) :: us) J.kIn n2
  rw [List.append_nil] at b2
  refine wpAny_call (make_map (f := f) I.kIn M.makes M.init (beq_iff_eq.mp M.fn) (codeAny_mono (F.run _ X.stack _ _ ⟨Value.ref (s.heap.objs.size + 1) :: us, []⟩ _ _ _ _ (hr.make C us []) (J.env0.make C us []) b2 r2 go) ?_))
  intro r s' z
  match r, z with
  | .error e, z => exact hx σ pins _ _ e s' J z
  | .ok .next, z => exact False.elim z
  | .ok .brk, z => exact False.elim z
  | .ok .cont, z => exact False.elim z
  | .ok (.ret u), z =>
    obtain ⟨v, H', I3, rv, rfl, q3⟩ := J.after z
    exact ⟨rv, V.ref (s.heap.objs.size + 1), H', I3, rfl, q3⟩
/-- the class and its error, as they are caught -/
structure Mb (P : Program) (w : World) (K : PySem.W.Frag) (mg : Str → Option Value) (base : Heap) (C CB : Addr) : Prop where
  m : mg "Mask" = some (.ref C)
  er : Er P w K mg base "BadMask" CB "value"
  xf : XfC K CB
  ex : PySem.W.exmOne K (.ref CB) (.ref CB) = some true
  bad : ∃ f fd, Mk K C f ∧ FnOk P w K mg base (L2N.CX P w) 5 f fd ["self", "paths"] (spBad K C CB) ∧ Binds K fd ["self", "paths"] []
/-- the wish that a caught BadMask comes to, at a suite that is told by ts -/
theorem bad_go {K : PySem.W.Frag} {C CB : Addr} {H : Hp} {x dx p : Addr} {us : List V} {ds : List PyData} {i : Nat} {v : V} {d : PyData} {Q : VK} {E : XK} (nx : H x = none) (nd : H dx = none) (ne : dx ≠ x) (hS : SqL K H p us) (hd : DxA H us ds) (hok : ∀ d ∈ ds, okR d) (hi : us[i]? = some v) (hdi : ds[i]? = some d)
    (hbad : mpD d = false) (hgood : ∀ j e, j < i → ds[j]? = some e → mpD e = true) (q : ∀ H' dd, Same H H' → H' dd = some (.xd [(("value" : Str), v)]) → E (.ref CB) (some dd) H') : spBad K C CB [.ref x, .ref p] (upd (upd H dx (.own x)) x (.ins C dx [])) Q E := by
  have s1 := same_new (o := .own x) nd
  have nx1 : upd H dx (.own x) x = none := by
    rw [upd_ne ne.symm]
    exact nx
  have s2 := same_new (o := .ins C dx []) nx1
  have sm := s1.trans s2
  exact ⟨x, dx, p, us, ds, i, v, d, rfl, upd_same, .inl (sm.seq hS), hd.mono sm, hok, hi, hdi, hbad, hgood, fun H' dd s3 hx => q H' dd (sm.trans s3) hx⟩
def spCaught (K : PySem.W.Frag) : Sp := fun vs H Q _ => ∃ (p : Addr) (us : List V) (ds : List PyData) (i : Nat) (v : V) (d : PyData), vs = [.ref p] ∧ SqL K H p us ∧ DxA H us ds ∧ (∀ d ∈ ds, okR d) ∧ us[i]? = some v ∧ ds[i]? = some d ∧ mpD d = false ∧ (∀ j e, j < i → ds[j]? = some e → mpD e = true) ∧
  ∀ H' q, Same H H' → H q = none → H' q = some (.lst [v]) → Q (.ref q) H'
section
variable {P : Program} {w : World} {K : PySem.W.Frag} {mg : Str → Option Value} {base : Heap} {f C CB : Addr} {fd : FuncData}
abbrev s_law_caught : Stmt := top 27
theorem sc_law_caught : FnScope ["paths", "error"] ["paths"] (defScope s_law_caught) := ⟨rfl, rfl, rfl, by decide +kernel, rfl, by decide +kernel, by decide +kernel⟩
theorem ok_law_caught (M : Mb P w K mg base C CB) (p : Pl K mg "_law_caught" s_law_caught ["paths"] f fd) : Dfo P w K mg base 7 "_law_caught" ["paths"] (spCaught K) := by
  have S := sc_law_caught
  refine plo p (p.F.ok S (fun vs H Q E h => ?_) (fun cdv A out s H vs Q E hr h => ?_))
  · obtain ⟨p, us, ds, i, v, d, rfl, _⟩ := h
    rfl
  · obtain ⟨p, us, ds, i, v, d, rfl, hS, hd, hok, hi, hdi, hbad, hgood, q⟩ := h
    obtain ⟨g, gd, mk, G, bG⟩ := M.bad
    refine ⟨_, (pss_cons (L2N.ps_try_as (i := 1) (Wout := fun _ _ _ _ => False) rfl rfl S.nd rfl rfl ⟨(by rfl), (by decide), .inl M.er.m⟩ (fun u s' z => by obtain ⟨_, _, _, _, _, _, _, _, _, _, _, _, _, _, _, _, z⟩ := z; exact z.elim)
        (fun W pn xe tk po => pss_one (ps_expr (pe_makeS (E := WE W) mk G (hr.mono (by decide)) (by rfl) M.m bG (fun σ => L2N.passAt tk σ) (pa_cons (pv 0) pa_nil))))
        (fun a oe cls d pn hz hf => pss_one (ps_ret (pe_lst (pa_cons (pe_xf M.xf M.er.no hz.zc hf (pv 1)) pa_nil)))))
      (pss_one (ps_ret (pe_lst pa_nil)))), ?_⟩
    refine ⟨_, rfl, fun x dx nx nd ne => bad_go nx nd ne hS hd hok hi hdi hbad hgood fun H' dd s1 hx => ⟨true, M.ex, fun _ a na => ?_, fun z => by cases z⟩⟩
    refine ⟨_, rfl, rfl, rfl, dd, _, v, rfl, hx, rfl, (by show 1 ≤ sizeLine; decide), fun l nl => q _ l (s1.trans (same_new nl)) (Same.free s1 nl) upd_same⟩
end
end K09
set_option maxHeartbeats 4000000
namespace K09
open PySem PySem.Spec PyProof.Rows HotX
/-! ### the end of a walk, while an exception is handled -/
section
variable {prog : Program} {w : World} {A : Around} {E : Value → Shared → Prop} {s : Shared} {it l x1 : Addr} {i : Nat} {items : Array Value} {Q : Option Value → Shared → Prop}
theorem next_list_hot (hot : HotAt A x1 s.heap) (ne : x1 ≠ it) (hit : s.heap.IsListIter it l i) (hl : s.heap.IsList l items) (hx : items[i]? = none) (hQ : ∀ h', Heap.ExtBut it s.heap h' → Q none { s with heap := h' }) : wpAny (model prog w) A (pyNext (.ref it)) Q E s := by
  obtain ⟨hh, o1, v1, g1, d1, c1⟩ := hot
  obtain ⟨oi, ei, ci, di⟩ := id hit
  obtain ⟨ol, el, _, nl, dl⟩ := hl
  unfold pyNext
  refine wpAny_bind (wpAny_attempt (wpAny_callSpecial?_slot (name := Str.ofString "__next__") hit.typeIs slot_listiter_next (wpAny_call_entry slot_listiter_next hit.typeIs entry_listiter_next ?_ (args_listiter_next _))))
  show wpAny _ _ (field (.ref it) 0 >>= _) _ _ _
  refine wpAny_bind (wpAny_field ei di (x := .ref l) rfl ?_)
  show wpAny _ _ (if (Value.ref l == Value.none) = true then _ else _) _ _ _
  have nn : ¬ ((Value.ref l == Value.none) = true) := Bool.false_ne_true
  rw [if_neg nn]
  show wpAny _ _ (field (.ref it) 1 >>= _) _ _ _
  refine wpAny_bind (wpAny_field ei di (x := .int i 0) rfl ?_)
  show wpAny _ _ (seqItems? (.ref l) >>= _) _ _ _
  refine wpAny_bind (wpAny_seqItems el dl ?_)
  simp only [Int.toNat_natCast, hx]
  refine wpAny_bind (wpAny_rule (wpAny_bind (wpAny_setField ei di (by simp) ?_)))
  show wpAny _ _ (newExc (.type "StopIteration") [] >>= _) _ _ _
  refine wpAny_bind ?_
  simp only [newExc, newTuple]
  refine wpAny_bind (wpAny_newObj_type (wpAny_bind (m := firstArgMember _ _) (wpAny_of_eq (a := Value.none) (by first | rfl | (simp only [firstArgMember]; rfl)) (wpAny_newObj_type ?_ (by size_fits)))) (by size_fits))
  refine raiseNew_hot (x1 := x1) ⟨hh, o1, v1, Heap.get?_push_of_some _ (Heap.get?_push_of_some _ (((Heap.SameBut.update ..).2 x1 ne).trans g1)), d1, c1⟩ (Nat.ne_of_lt (Heap.lt_size (Heap.get?_push_of_some _ (((Heap.SameBut.update ..).2 x1 ne).trans g1)))) (Heap.get?_push_size _ rfl) rfl
    (by first | (simp; done) | (simp; omega) | (simp only [Array.size_append]; simp; omega)) ?_
  refine wpAny_bind (wpAny_isInstance (T := "StopIteration") (b := true) ⟨_, Heap.get?_update_self _ (Heap.get?_push_size _ rfl) rfl, rfl⟩ isSubtype_stop ?_)
  refine wpAny_pure (hQ _ (fun b o nb eb => ?_))
  refine (Heap.get?_update_other _ _ ?_).trans (Heap.get?_push_of_some _ (Heap.get?_push_of_some _ (((Heap.SameBut.update ..).2 b nb).trans eb)))
  exact Nat.ne_of_gt (Heap.lt_size (Heap.get?_push_of_some _ (((Heap.SameBut.update ..).2 b nb).trans eb)))
theorem next_tup_hot (hot : HotAt A x1 s.heap) (ne : x1 ≠ it) (hit : s.heap.IsTupleIter it l i) (hl : s.heap.IsTuple l items) (hx : items[i]? = none) (hQ : ∀ h', Heap.ExtBut it s.heap h' → Q none { s with heap := h' }) : wpAny (model prog w) A (pyNext (.ref it)) Q E s := by
  obtain ⟨hh, o1, v1, g1, d1, c1⟩ := hot
  obtain ⟨oi, ei, ci, di⟩ := id hit
  obtain ⟨ol, el, _, nl, dl⟩ := hl
  unfold pyNext
  refine wpAny_bind (wpAny_attempt (wpAny_callSpecial?_slot (name := Str.ofString "__next__") hit.typeIs F.slot_tuple_iterator_next (wpAny_call_entry F.slot_tuple_iterator_next hit.typeIs F.entry_tuple_iterator_next ?_ (F.args_tuple_iterator_next_1 _))))
  show wpAny _ _ (field (.ref it) 0 >>= _) _ _ _
  refine wpAny_bind (wpAny_field ei di (x := .ref l) rfl ?_)
  show wpAny _ _ (if (Value.ref l == Value.none) = true then _ else _) _ _ _
  have nn : ¬ ((Value.ref l == Value.none) = true) := Bool.false_ne_true
  rw [if_neg nn]
  show wpAny _ _ (field (.ref it) 1 >>= _) _ _ _
  refine wpAny_bind (wpAny_field ei di (x := .int i 0) rfl ?_)
  show wpAny _ _ (seqItems? (.ref l) >>= _) _ _ _
  refine wpAny_bind (wpAny_seqItems el dl ?_)
  simp only [Int.toNat_natCast, hx]
  refine wpAny_bind (wpAny_rule (wpAny_bind (wpAny_setField ei di (by simp) ?_)))
  show wpAny _ _ (newExc (.type "StopIteration") [] >>= _) _ _ _
  refine wpAny_bind ?_
  simp only [newExc, newTuple]
  refine wpAny_bind (wpAny_newObj_type (wpAny_bind (m := firstArgMember _ _) (wpAny_of_eq (a := Value.none) (by first | rfl | (simp only [firstArgMember]; rfl)) (wpAny_newObj_type ?_ (by size_fits)))) (by size_fits))
  refine raiseNew_hot (x1 := x1) ⟨hh, o1, v1, Heap.get?_push_of_some _ (Heap.get?_push_of_some _ (((Heap.SameBut.update ..).2 x1 ne).trans g1)), d1, c1⟩ (Nat.ne_of_lt (Heap.lt_size (Heap.get?_push_of_some _ (((Heap.SameBut.update ..).2 x1 ne).trans g1)))) (Heap.get?_push_size _ rfl) rfl
    (by first | (simp; done) | (simp; omega) | (simp only [Array.size_append]; simp; omega)) ?_
  refine wpAny_bind (wpAny_isInstance (T := "StopIteration") (b := true) ⟨_, Heap.get?_update_self _ (Heap.get?_push_size _ rfl) rfl, rfl⟩ isSubtype_stop ?_)
  refine wpAny_pure (hQ _ (fun b o nb eb => ?_))
  refine (Heap.get?_update_other _ _ ?_).trans (Heap.get?_push_of_some _ (Heap.get?_push_of_some _ (((Heap.SameBut.update ..).2 b nb).trans eb)))
  exact Nat.ne_of_gt (Heap.lt_size (Heap.get?_push_of_some _ (((Heap.SameBut.update ..).2 b nb).trans eb)))
/-- the keys of a dict -/
theorem next_key_hot {d : Addr} {n ep : Nat} {od : Obj} {es : Array DictEntry} (hot : HotAt A x1 s.heap) (ne : x1 ≠ it) (hit : s.heap.IsKeyIter it d i n ep) (hod : s.heap.get? d = some od) (hdd : od.data = .dict es ep) (hsz : es.size = n) (hge : n ≤ i) (hQ : ∀ h', Heap.ExtBut it s.heap h' → Q none { s with heap := h' }) : wpAny (model prog w) A (pyNext (.ref it)) Q E s := by
  obtain ⟨hh, o1, v1, g1, d1, c1⟩ := hot
  obtain ⟨oi, ei, ci, di⟩ := id hit
  have ge : es.size ≤ i := hsz ▸ hge
  unfold pyNext
  refine wpAny_bind (wpAny_attempt (wpAny_callSpecial?_slot (name := Str.ofString "__next__") hit.typeIs F.slot_dict_keyiterator_next (wpAny_call_entry F.slot_dict_keyiterator_next hit.typeIs F.entry_dict_keyiterator_next ?_ (F.args_dict_keyiterator_next_1 _))))
  refine wpAny_bind (wpAny_pure (wpAny_bind (wpAny_bind ?_)))
  first | refine wpAny_bind (wpAny_typeNameOfWhole_keyiter hit.typeIs (wpAny_pure (wpAny_bind (wpAny_fieldsOf ei di ?_)))) | refine wpAny_bind (wpAny_typeNameOf_keyiter hit.typeIs (wpAny_pure (wpAny_bind (wpAny_fieldsOf ei di ?_))))
  have no : Builtin.Dict_items.ownsTuple "dict_keyiterator" = false := by decide
  simp only [no, Bool.false_eq_true, if_false]
  show wpAny _ _ (if (Value.ref d == Value.none) = true then _ else _) _ _ _
  have nn : ¬ ((Value.ref d == Value.none) = true) := Bool.false_ne_true
  rw [if_neg nn]
  refine wpAny_bind (wpAny_pure (wpAny_bind (wpAny_dictEntries hod hdd ?_)))
  rw [if_neg (by rw [hsz]; simp)]
  refine wpAny_bind (wpAny_pure (wpAny_bind (wpAny_dictEpoch hod hdd ?_)))
  rw [if_neg (by simp)]
  refine wpAny_pure ?_
  have n0 : ¬ ((i : Int) < 0) := by omega
  simp only [n0, if_false, Int.toNat_natCast, Array.getElem?_eq_none ge]
  first | refine wpAny_bind (wpAny_bind (wpAny_typeNameOfWhole_keyiter hit.typeIs (wpAny_pure ?_))) | refine wpAny_bind (wpAny_bind (wpAny_typeNameOf_keyiter hit.typeIs (wpAny_pure ?_)))
  show wpAny _ _ (setField (.ref it) 0 .none >>= _) _ _ _
  refine wpAny_bind (wpAny_setField ei di (by simp) ?_)
  show wpAny _ _ (newExc (.type "StopIteration") [] >>= _) _ _ _
  refine wpAny_bind ?_
  simp only [newExc, newTuple]
  refine wpAny_bind (wpAny_newObj_type (wpAny_bind (m := firstArgMember _ _) (wpAny_of_eq (a := Value.none) (by first | rfl | (simp only [firstArgMember]; rfl)) (wpAny_newObj_type ?_ (by size_fits)))) (by size_fits))
  refine raiseNew_hot (x1 := x1) ⟨hh, o1, v1, Heap.get?_push_of_some _ (Heap.get?_push_of_some _ (((Heap.SameBut.update ..).2 x1 ne).trans g1)), d1, c1⟩ (Nat.ne_of_lt (Heap.lt_size (Heap.get?_push_of_some _ (((Heap.SameBut.update ..).2 x1 ne).trans g1)))) (Heap.get?_push_size _ rfl) rfl
    (by first | (simp; done) | (simp; omega) | (simp only [Array.size_append]; simp; omega)) ?_
  refine wpAny_bind (wpAny_isInstance (T := "StopIteration") (b := true) ⟨_, Heap.get?_update_self _ (Heap.get?_push_size _ rfl) rfl, rfl⟩ isSubtype_stop ?_)
  refine wpAny_pure (hQ _ (fun b o nb eb => ?_))
  refine (Heap.get?_update_other _ _ ?_).trans (Heap.get?_push_of_some _ (Heap.get?_push_of_some _ (((Heap.SameBut.update ..).2 b nb).trans eb)))
  exact Nat.ne_of_gt (Heap.lt_size (Heap.get?_push_of_some _ (((Heap.SameBut.update ..).2 b nb).trans eb)))
end
end K09
set_option maxHeartbeats 4000000
namespace K09
open PySem PySem.Spec PyProof.Rows L2 Zk Zs Zo Zd Zx K14 HotX
/-! ### walks over nothing, while an exception is handled -/
structure Turn0 (P : Program) (w : World) (K : PySem.W.Frag) (it : Addr) (st : Heap → Prop) (Em : Hp → Prop) : Prop where
  obj : ∀ h, st h → ∃ o, h.get? it = some o ∧ ∀ v, o.data ≠ .cell v
  keep : ∀ h h', st h → (∀ o, h.get? it = some o → h'.get? it = some o) → st h'
  em : ∀ H H', Same H H' → Em H → Em H'
  done : ∀ (X : Cx), X.prog = P → X.w = w → X.K = K → ∀ (x1 : Addr) (pins : List (Addr × Obj)) (s : Shared) (σ : L2.St) (H : Hp) (E : Value → Shared → Prop), Inv X pins σ H s → FpOk X pins H it → HotAt X.A x1 s.heap → x1 ≠ it → st s.heap → Em H → wpAny (model P w) X.A (pyNext (.ref it)) (fun r s1 => r = none ∧ Inv X pins σ H s1) E s
  self : ∀ (A : Around) (s : Shared) (Q : Value → Shared → Prop) (E : Value → Shared → Prop), st s.heap → Q (.ref it) s → wpAny (model P w) A (pyIter (.ref it)) Q E s
theorem t0_list {P : Program} {w : World} {K : PySem.W.Frag} (a it : Addr) : Turn0 P w K it (fun h => h.IsListIter it a 0) (fun H => SqL K H a []) where
  obj := fun h z => by
    obtain ⟨o, e, c, d⟩ := z
    exact ⟨o, e, fun v y => by rw [d] at y; cases y⟩
  keep := fun h h' z k => z.at fun o e => k o e
  em := fun H H' s z => s.seq z
  done := by
    intro X hP hw hK x1 pins s σ H E I hf hot ne z em
    subst hP hw hK
    obtain ⟨its, rv, p, hz⟩ := I.list em
    have hl := rv.length
    obtain ⟨f0, f1, f2, f3, f4, f5⟩ := hf
    exact next_list_hot hot ne z p.isList (by simp; exact List.length_eq_zero_iff.mp hl.symm) fun h' eb => ⟨rfl, I.turned (t' := s.toks) (fun b o hb e => eb b o hb e) f0 f1 f3 f4 f5⟩
  self := fun _ _ _ _ z h => wpAny_pyIter_listiter z h
theorem t0_tup {P : Program} {w : World} {K : PySem.W.Frag} (a it : Addr) : Turn0 P w K it (fun h => h.IsTupleIter it a 0) (fun H => SqT K H a []) where
  obj := fun h z => by
    obtain ⟨o, e, c, d⟩ := z
    exact ⟨o, e, fun v y => by rw [d] at y; cases y⟩
  keep := fun h h' z k => z.at fun o e => k o e
  em := fun H H' s z => same_seqT s z
  done := by
    intro X hP hw hK x1 pins s σ H E I hf hot ne z em
    subst hP hw hK
    obtain ⟨its, rv, p, hz⟩ := I.tuple em
    have hl := rv.length
    obtain ⟨f0, f1, f2, f3, f4, f5⟩ := hf
    exact next_tup_hot hot ne z (show s.heap.IsTuple a its.toArray from p) (by simp; exact List.length_eq_zero_iff.mp hl.symm) fun h' eb => ⟨rfl, I.turned (t' := s.toks) (fun b o hb e => eb b o hb e) f0 f1 f3 f4 f5⟩
  self := fun _ _ _ _ z h => wpAny_pyIter_tupleiter z h
theorem t0_keys {P : Program} {w : World} {K : PySem.W.Frag} {d : Addr} {od : Obj} {es : Array DictEntry} {ep : Nat} (it : Addr) (ho : od.data = .dict es ep) : Turn0 P w K it (fun h => h.IsKeyIter it d 0 0 ep) (fun H => H d = some (.frz od (.dT []))) where
  obj := fun h z => by
    obtain ⟨o, e, c, dd⟩ := z
    exact ⟨o, e, fun v y => by rw [dd] at y; cases y⟩
  keep := fun h h' z k => z.at fun o e => k o e
  em := fun H H' s z => s _ _ z
  done := by
    intro X hP hw hK x1 pins s σ H E I hf hot ne z em
    subst hP hw hK
    obtain ⟨hs, hgd, hx, es', ep', hdt, hsz, ent⟩ := I.frzT em
    obtain ⟨rfl, rfl⟩ := dict_ep ho hdt
    obtain ⟨f0, f1, f2, f3, f4, f5⟩ := hf
    exact next_key_hot hot ne z hgd hdt hsz (Nat.le_refl _) fun h' eb => ⟨rfl, I.turned (t' := s.toks) (fun b o hb e => eb b o hb e) f0 f1 f3 f4 f5⟩
  self := fun A s Q E z h => by
    refine wpAny_pyIter_slot z.typeIs F.slot_dict_keyiterator_iter (wpAny_call_entry F.slot_dict_keyiterator_iter z.typeIs F.entry_dict_keyiterator_iter (wpAny_pure ?_) (F.args_dict_keyiterator_iter_1 _))
    exact ⟨_, rfl, "dict_keyiterator", _, z.typeIs, F.slot_dict_keyiterator_next.lookup, h⟩
abbrev TI0 := L2.St → Hp → (Hp → Prop) → Prop
def PE0 (X : Cx) (pins : List (Addr × Obj)) (σ : L2.St) (R : Hp → Prop) (v : Value) (s : Shared) : Prop :=
  ∃ (it : Addr) (st : Heap → Prop) (Em : Hp → Prop) (H : Hp), v = .ref it ∧ Inv X pins σ H s ∧ Turn0 X.prog X.w X.K it st Em ∧ st s.heap ∧ FpOk X pins H it ∧ Em H ∧ R H
structure PI0 (X : Cx) (iter : Expr) (wi : TI0) : Prop where
  run : ∀ (pins : List (Addr × Obj)) (s : Shared) (σ : L2.St) (H : Hp) (R : Hp → Prop), Inv X pins σ H s → wi σ H R → wpAny (model X.prog X.w) X.A (eval iter X.env) (fun v s1 => wpAny (model X.prog X.w) X.A (pyIter v) (PE0 X pins σ R) X.xe s1) X.xe s
section
variable {X : Cx} {e : Expr} {te : TE}
theorem pi0_list (he : PE X e te) : PI0 X e (fun σ H R => te σ H fun x H1 => ∃ a, x = .ref a ∧ SqL X.K H1 a [] ∧ R H1) := by
  constructor
  intro pins s σ H R I h
  refine thn (he.run pins s σ H _ I h) fun v s1 z => ?_
  obtain ⟨x, H1, I1, r1, a, rfl, hq, q⟩ := z
  obtain rfl : v = Value.ref a := r1
  obtain ⟨its, rv, p, hz⟩ := I1.list hq
  refine wpAny_pyIter_list p.isList ⟨s1.heap.objs.size, _, _, H1, rfl, I1.kept (t' := s1.toks) (fun b o z => Heap.get?_push_of_some _ z), t0_list a _, ⟨_, Heap.get?_push_size _ rfl, rfl, rfl⟩, I1.fpOk (Nat.le_refl _) (I1.hok.fresh (Nat.le_refl _)), hq, q⟩
theorem pi0_tup (he : PE X e te) : PI0 X e (fun σ H R => te σ H fun x H1 => ∃ a, x = .ref a ∧ SqT X.K H1 a [] ∧ R H1) := by
  constructor
  intro pins s σ H R I h
  refine thn (he.run pins s σ H _ I h) fun v s1 z => ?_
  obtain ⟨x, H1, I1, r1, a, rfl, hq, q⟩ := z
  obtain rfl : v = Value.ref a := r1
  obtain ⟨its, rv, p, hz⟩ := I1.tuple hq
  refine wpAny_pyIter_tuple (show s1.heap.IsTuple a its.toArray from p) ⟨s1.heap.objs.size, _, _, H1, rfl, I1.kept (t' := s1.toks) (fun b o z => Heap.get?_push_of_some _ z), t0_tup a _, ⟨_, Heap.get?_push_size _ rfl, rfl, rfl⟩, I1.fpOk (Nat.le_refl _) (I1.hok.fresh (Nat.le_refl _)), hq, q⟩
theorem pi0_keys (he : PE X e te) : PI0 X e (fun σ H R => te σ H fun x H1 => ∃ d od, x = .ref d ∧ H1 d = some (.frz od (.dT [])) ∧ R H1) := by
  constructor
  intro pins s σ H R I h
  refine thn (he.run pins s σ H _ I h) fun v s1 z => ?_
  obtain ⟨x, H1, I1, r1, d, od, rfl, hq, q⟩ := z
  obtain rfl : v = Value.ref d := r1
  obtain ⟨hs, hgd, hx, es, ep, hdt, hsz, ent⟩ := I1.frzT hq
  refine iter_keys hs hgd hx hdt ⟨s1.heap.objs.size, _, _, H1, rfl, I1.kept (t' := s1.toks) (fun b o z => Heap.get?_push_of_some _ z), t0_keys (d := d) _ hdt, ⟨_, Heap.get?_push_size _ rfl, rfl, ?_⟩, I1.fpOk (Nat.le_refl _) (I1.hok.fresh (Nat.le_refl _)), hq, q⟩
  rw [hsz]
  rfl
/-- a comprehension over nothing -/
theorem pe_lc0 {elt tg iter : Expr} {ifs : List Expr} {scope : Scope} {own : List (Str × Nat)} {pos : Pos} {wi : TI0} (hc : L2H.HotC X) (hN : X.N.Nodup) (hi : PI0 X iter wi) (ok : BlkOk X.N X.env.scope scope own) (hs : ∀ x, foldedSetIterable iter X.env x = pure x := by intro _; rfl) :
    PE X (.ListComp elt [⟨tg, iter, ifs, 0⟩] scope pos) (fun σ H Q => wi σ H fun H1 => ∀ D, H1 D = none → Q (.ref D) (upd H1 D (.lst []))) := by
  constructor
  intro pins s0 σ H0 Q I0 h
  rw [eval_ListComp]
  obtain ⟨pp, ⟨hh, v1, e1, c1⟩, mp⟩ := hc
  have outside : ∀ y ∈ scope.names, y.2 = .free → ∃ c, X.env.cells.lookup y.1 = some c := by
    intro y my e
    cases ok.free y my e with
    | inl k => exact I0.ok.has _ (.inl k)
    | inr k => exact I0.ok.has _ (.inr k)
  refine wpAny_comprehension_free rfl hs (closure_ok outside) ok.kind (fun y my e => by rw [ok.uniq y my, e]) (thn (hi.run pins s0 σ H0 _ I0 h) fun v s1 z => thn z fun itv s2 z2 => ?_)
  obtain ⟨it, st, Em, H2, rfl, I2, T, st2, f2, em2, q⟩ := z2
  have hot2 := (I2.pin pp (List.mem_append_left _ mp)).1
  have ne : pp.1 ≠ it := f2.2.2.2.2.2 pp (List.mem_append_left _ mp)
  refine wpAny_newObj_type (newEnv_comp ?_) (by show 0 ≤ sizeLine; decide)
  generalize eD : s2.heap.objs.size = D
  have nD : H2 D = none := I2.hok.fresh (by rw [eD]; exact Nat.le_refl _)
  have q := q D nD
  generalize eS : ({ s2 with heap := s2.heap.push { cls := .type "list", data := .seq ([] : List Value).toArray } } : Shared) = s3
  have g3 : s3.heap = s2.heap.push { cls := .type "list", data := .seq ([] : List Value).toArray } := by rw [← eS]
  have em3 := T.em _ _ (same_new (o := (.lst [])) nD) em2
  generalize eH : upd H2 D (.lst []) = H3 at q em3
  have I3 : Inv X pins σ H3 s3 := by
    rw [← eS, ← eH]
    refine I2.laid (t' := s2.toks) (fun _ _ e => Heap.get?_push_of_some _ e) (by rw [eD]; exact Nat.le_refl _) ?_
    refine ⟨Nat.zero_le _, [], 0, .nil, ?_⟩
    rw [← eD]
    exact Heap.get?_push_size _ rfl
  obtain ⟨oi, ei, _⟩ := T.obj _ st2
  have old : it < D := by
    rw [← eD]
    exact Heap.lt_size ei
  have f3 : ∀ b ∈ [it], FpOk X pins H3 b ∧ b < s3.heap.objs.size := by
    intro b mb
    obtain rfl := List.mem_singleton.mp mb
    refine ⟨⟨?_, f2.2⟩, ?_⟩
    · rw [← eH, upd_ne (Nat.ne_of_lt old)]
      exact f2.1
    · rw [g3, Heap.size_push, eD]
      exact Nat.lt_succ_of_lt old
  have k3 : ∀ b o, s2.heap.get? b = some o → s3.heap.get? b = some o := by
    intro b o e
    rw [g3]
    exact Heap.get?_push_of_some _ e
  have st3 : st s3.heap := T.keep _ _ st2 fun o e => k3 _ o e
  have I4 := block_start I3 ok hN f3
  generalize eC : s3.heap.objs.size = C at I4
  generalize eL : cellsFrom (C + 1) scope.names (cloFrom X.env.cells scope.names []) = cl at I4
  have locC : (compEnvC scope cl C X.env).locals = C := rfl
  rw [eC] at f3
  show codeAny _ _ (.compStart (.ListComp elt [⟨tg, iter, ifs, 0⟩] scope pos) 0 (.ref it) (.ref D) (compEnvC scope cl C X.env)) (compPost _ X.A X.xe _ _ (.ref D) C) { s3 with heap := pushCells (s3.heap.push { cls := .type "dict", data := .dict #[] }) scope.names }
  generalize compEnvC scope cl C X.env = ce at I4 locC ⊢
  have k4 : ∀ b o, s3.heap.get? b = some o → (pushCells (s3.heap.push { cls := .type "dict", data := .dict #[] }) scope.names).get? b = some o := fun b o e => pushCells_keeps _ _ _ _ (Heap.get?_push_of_some _ e)
  generalize eT : ({ s3 with heap := pushCells (s3.heap.push { cls := .type "dict", data := .dict #[] }) scope.names } : Shared) = s4 at I4 ⊢
  have g4 : ∀ b o, s3.heap.get? b = some o → s4.heap.get? b = some o := by
    intro b o e
    rw [← eT]
    exact k4 b o e
  have st4 : st s4.heap := T.keep _ _ st3 fun o e => g4 _ o e
  have hot4 : HotAt X.A pp.1 s4.heap := ⟨hh, pp.2, v1, g4 _ _ (k3 _ _ hot2), e1, c1⟩
  have fpo : FpOk (X.blk s3 H3 scope ce [it]) [] H3 it := by
    have m1 : it ∈ [it] := List.mem_singleton.mpr rfl
    refine ⟨(f3 it m1).1.1, (I4.ok.exf it m1).1, I4.ok.exfs it m1, .inl m1, fun x c e => (I4.ok.exf it m1).2 x c e, fun p mp => ?_⟩
    have mp : p ∈ ([] : List (Addr × Obj)) ++ [] := mp
    cases mp
  suffices loop : codeAny (model X.prog X.w) X.A (.compLoop (.ListComp elt [⟨tg, iter, ifs, 0⟩] scope pos) 0 (.ref it) (.ref D) ce) _ s4 from codeAny_compStart_list loop (T.self X.A _ _ _ st4 loop)
  refine compLoop_any (fun n s5 => s5 = s4) (fun n s5 z5 => ?_) 0 rfl
  subst z5
  refine thnF (T.done (X.blk s3 H3 scope ce [it]) rfl rfl rfl pp.1 [] s5 _ H3 (fun _ _ => False) I4 fpo hot4 ne st4 em3) fun r s6 z6 => ?_
  obtain ⟨rfl, I6⟩ := z6
  have I7 : Inv X pins σ H3 s6 := I3.call' (ch := [it]) I6.os I6.base I6.hok I6.bare fun b mb => by
    obtain ⟨⟨_, a1, a2, a3, a4, a5⟩, _⟩ := f3 b mb
    exact ⟨a3, a1, a4, a5⟩
  have nC : H3 C = none := by
    have z : H3 ce.locals = none := I6.free
    rwa [locC] at z
  obtain ⟨m, hn, _⟩ := I6.loc
  have hn : s6.heap.Ns ce.locals m := hn
  rw [locC] at hn
  obtain ⟨b0, b1, b2, b3, b4, b5⟩ := I3.fpOk (Nat.le_of_eq eC) nC
  exact ⟨m, hn, fun h'' sb => ⟨.ref D, H3, I7.turned (t' := s6.toks) (fun b o hb e => (sb.2 b hb).trans e) b0 b1 b3 b4 b5, rfl, q⟩⟩
/-- a comprehension over nothing -/
theorem pe_dc0 {kx vx tg iter : Expr} {ifs : List Expr} {scope : Scope} {own : List (Str × Nat)} {pos : Pos} {wi : TI0} (hc : L2H.HotC X) (hN : X.N.Nodup) (hi : PI0 X iter wi) (ok : BlkOk X.N X.env.scope scope own) (hs : ∀ x, foldedSetIterable iter X.env x = pure x := by intro _; rfl) :
    PE X (.DictComp kx vx [⟨tg, iter, ifs, 0⟩] scope pos) (fun σ H Q => wi σ H fun H1 => ∀ D, H1 D = none → Q (.ref D) (upd H1 D (.dT []))) := by
  constructor
  intro pins s0 σ H0 Q I0 h
  rw [arm_eval_DictComp]
  obtain ⟨pp, ⟨hh, v1, e1, c1⟩, mp⟩ := hc
  have outside : ∀ y ∈ scope.names, y.2 = .free → ∃ c, X.env.cells.lookup y.1 = some c := by
    intro y my e
    cases ok.free y my e with
    | inl k => exact I0.ok.has _ (.inl k)
    | inr k => exact I0.ok.has _ (.inr k)
  refine wpAny_comprehension_free rfl hs (closure_ok outside) ok.kind (fun y my e => by rw [ok.uniq y my, e]) (thn (hi.run pins s0 σ H0 _ I0 h) fun v s1 z => thn z fun itv s2 z2 => ?_)
  obtain ⟨it, st, Em, H2, rfl, I2, T, st2, f2, em2, q⟩ := z2
  have hot2 := (I2.pin pp (List.mem_append_left _ mp)).1
  have ne : pp.1 ≠ it := f2.2.2.2.2.2 pp (List.mem_append_left _ mp)
  refine wpAny_newObj_type (newEnv_comp ?_)
  generalize eD : s2.heap.objs.size = D
  have nD : H2 D = none := I2.hok.fresh (by rw [eD]; exact Nat.le_refl _)
  have q := q D nD
  generalize eS : ({ s2 with heap := s2.heap.push { cls := .type "dict", data := .dict #[] } } : Shared) = s3
  have g3 : s3.heap = s2.heap.push { cls := .type "dict", data := .dict #[] } := by rw [← eS]
  have em3 := T.em _ _ (same_new (o := (.dT [])) nD) em2
  generalize eH : upd H2 D (.dT []) = H3 at q em3
  have I3 : Inv X pins σ H3 s3 := by
    rw [← eS, ← eH]
    refine I2.laid (t' := s2.toks) (fun _ _ e => Heap.get?_push_of_some _ e) (by rw [eD]; exact Nat.le_refl _) ?_
    rw [← eD]
    exact dt_empty s2.heap I2.big
  obtain ⟨oi, ei, _⟩ := T.obj _ st2
  have old : it < D := by
    rw [← eD]
    exact Heap.lt_size ei
  have f3 : ∀ b ∈ [it], FpOk X pins H3 b ∧ b < s3.heap.objs.size := by
    intro b mb
    obtain rfl := List.mem_singleton.mp mb
    refine ⟨⟨?_, f2.2⟩, ?_⟩
    · rw [← eH, upd_ne (Nat.ne_of_lt old)]
      exact f2.1
    · rw [g3, Heap.size_push, eD]
      exact Nat.lt_succ_of_lt old
  have k3 : ∀ b o, s2.heap.get? b = some o → s3.heap.get? b = some o := by
    intro b o e
    rw [g3]
    exact Heap.get?_push_of_some _ e
  have st3 : st s3.heap := T.keep _ _ st2 fun o e => k3 _ o e
  have I4 := block_start I3 ok hN f3
  generalize eC : s3.heap.objs.size = C at I4
  generalize eL : cellsFrom (C + 1) scope.names (cloFrom X.env.cells scope.names []) = cl at I4
  have locC : (compEnvC scope cl C X.env).locals = C := rfl
  rw [eC] at f3
  show codeAny _ _ (.compStart (.DictComp kx vx [⟨tg, iter, ifs, 0⟩] scope pos) 0 (.ref it) (.ref D) (compEnvC scope cl C X.env)) (compPost _ X.A X.xe _ _ (.ref D) C) { s3 with heap := pushCells (s3.heap.push { cls := .type "dict", data := .dict #[] }) scope.names }
  generalize compEnvC scope cl C X.env = ce at I4 locC ⊢
  have k4 : ∀ b o, s3.heap.get? b = some o → (pushCells (s3.heap.push { cls := .type "dict", data := .dict #[] }) scope.names).get? b = some o := fun b o e => pushCells_keeps _ _ _ _ (Heap.get?_push_of_some _ e)
  generalize eT : ({ s3 with heap := pushCells (s3.heap.push { cls := .type "dict", data := .dict #[] }) scope.names } : Shared) = s4 at I4 ⊢
  have g4 : ∀ b o, s3.heap.get? b = some o → s4.heap.get? b = some o := by
    intro b o e
    rw [← eT]
    exact k4 b o e
  have st4 : st s4.heap := T.keep _ _ st3 fun o e => g4 _ o e
  have hot4 : HotAt X.A pp.1 s4.heap := ⟨hh, pp.2, v1, g4 _ _ (k3 _ _ hot2), e1, c1⟩
  have fpo : FpOk (X.blk s3 H3 scope ce [it]) [] H3 it := by
    have m1 : it ∈ [it] := List.mem_singleton.mpr rfl
    refine ⟨(f3 it m1).1.1, (I4.ok.exf it m1).1, I4.ok.exfs it m1, .inl m1, fun x c e => (I4.ok.exf it m1).2 x c e, fun p mp => ?_⟩
    have mp : p ∈ ([] : List (Addr × Obj)) ++ [] := mp
    cases mp
  suffices loop : codeAny (model X.prog X.w) X.A (.compLoop (.DictComp kx vx [⟨tg, iter, ifs, 0⟩] scope pos) 0 (.ref it) (.ref D) ce) _ s4 from codeAny_compStart_dict loop (T.self X.A _ _ _ st4 loop)
  refine compLoop_anyD (fun n s5 => s5 = s4) (fun n s5 z5 => ?_) 0 rfl
  subst z5
  refine thnF (T.done (X.blk s3 H3 scope ce [it]) rfl rfl rfl pp.1 [] s5 _ H3 (fun _ _ => False) I4 fpo hot4 ne st4 em3) fun r s6 z6 => ?_
  obtain ⟨rfl, I6⟩ := z6
  have I7 : Inv X pins σ H3 s6 := I3.call' (ch := [it]) I6.os I6.base I6.hok I6.bare fun b mb => by
    obtain ⟨⟨_, a1, a2, a3, a4, a5⟩, _⟩ := f3 b mb
    exact ⟨a3, a1, a4, a5⟩
  have nC : H3 C = none := by
    have z : H3 ce.locals = none := I6.free
    rwa [locC] at z
  obtain ⟨m, hn, _⟩ := I6.loc
  have hn : s6.heap.Ns ce.locals m := hn
  rw [locC] at hn
  obtain ⟨b0, b1, b2, b3, b4, b5⟩ := I3.fpOk (Nat.le_of_eq eC) nC
  exact ⟨m, hn, fun h'' sb => ⟨.ref D, H3, I7.turned (t' := s6.toks) (fun b o hb e => (sb.2 b hb).trans e) b0 b1 b3 b4 b5, rfl, q⟩⟩
end
end K09
set_option maxHeartbeats 8000000
namespace K09
open PySem PySem.Spec PyProof.Rows L2 Zk Zs Zo Zd Zx K14 HotX
/-! ### defs, makings and properties, while an exception is handled -/
section
variable {X : Cx}
theorem ps_for0 {tg iter : Expr} {body : List Stmt} {wi : TI0} {pos : Pos} (hp : PassesOwn (model X.prog X.w) X.A X.env X.xe) (hc : L2H.HotC X) (hi : PI0 X iter wi) (hs : ∀ x, foldedSetIterable iter X.env x = pure x := by intro _; rfl) : PS X (.For tg iter body [] pos) (fun D σ H => wi σ H fun H1 => D.nx σ H1) := by
  constructor
  intro pins s0 σ H0 D I0 h
  obtain ⟨pp, ⟨hh, v1, e1, c1⟩, mp⟩ := hc
  refine wpAny_For (thn (hi.run pins s0 σ H0 _ I0 h) fun v s1 z => thn z fun itv s2 z2 => ?_) hs
  obtain ⟨it, st, Em, H2, rfl, I2, T, st2, f2, em2, q⟩ := z2
  have hot2 := (I2.pin pp (List.mem_append_left _ mp)).1
  have ne : pp.1 ≠ it := f2.2.2.2.2.2 pp (List.mem_append_left _ mp)
  refine codeAny_forLoop_any (fun n s3 => s3 = s2) (fun n s3 z3 => ?_) 0 rfl
  subst z3
  refine wpAny_passesOwn hp (thn (T.done X rfl rfl rfl pp.1 pins s3 σ H2 X.xe I2 f2 ⟨hh, pp.2, v1, hot2, e1, c1⟩ ne st2 em2) fun r s4 z4 => ?_)
  obtain ⟨rfl, I4⟩ := z4
  exact wpAny_execs_nil ⟨σ, H2, I4, q⟩
theorem pin_ok {pins : List (Addr × Obj)} {σ : L2.St} {H : Hp} {s : Shared} {p : Addr × Obj} (I : Inv X pins σ H s) (hp : p ∈ X.pn) : L2H.PinOk X.stack H s p := by
  have z := I.pin p (List.mem_append_left _ hp)
  refine ⟨z.1, z.2.1, fun m => ?_, z.2.2.2.2⟩
  rcases List.mem_cons.mp (I.stkSub p.1 m) with y | y
  · exact z.2.2.1 y
  · exact z.2.2.2.1 y
theorem roomH_in1 {k : Nat} {A : Around} (r : L2H.RoomH (k + 1) A) : L2H.RoomH k A.in1 := ⟨by have := r.dp; show A.depth + 3 * k + 5 < _; omega, by have := r.un; show A.units + 1 + 16 * k + 200 < _; omega⟩
variable {k : Nat} {f g p C a dx : Addr} {fd : FuncData} {ps : List Str} {sp : Sp} {ds : List Value} {dvs : List V} {x nm : Str} {e : Expr} {es : List Expr} {t : TA} {ta : TE} {pos q : Pos} {fs : List (Str × V)}
theorem run_make0 {pins : List (Addr × Obj)} {σ : L2.St} {H : Hp} {s : Shared} {Q : VK} {us : List Value} {vs : List V} (M : Mk X.K C f) (F : L2H.FnH X.prog X.w X.K X.mg X.base CX0 k f fd ps sp) (hr : L2H.RoomH (k + 1) X.A) (hc : L2H.HotC X) (hb : Binds X.K fd ps ds) (hd : Vals dvs ds)
    (I : Inv X pins σ H s) (r : Vals vs us) (h : ∀ x dx, H x = none → H dx = none → dx ≠ x → sp (.ref x :: (vs ++ dvs)) (upd (upd H dx (.own x)) x (.ins C dx [])) (fun v H2 => v = .non ∧ Q (.ref x) H2) E0) : wpAny (model X.prog X.w) X.A (call (.ref C) us) (EP X pins σ Q) X.xe s := by
  obtain ⟨pp, hot, mp⟩ := hc
  have go := h (s.heap.objs.size + 1) s.heap.objs.size (I.hok.fresh (Nat.le_succ _)) (I.hok.fresh (Nat.le_refl _)) (Nat.ne_of_lt (Nat.lt_succ_self _))
  have J := Inv.made (C := C) I
  have r2 : Vals (V.ref (s.heap.objs.size + 1) :: (vs ++ dvs)) (Value.ref (s.heap.objs.size + 1) :: (us ++ ds)) := .cons rfl (r.append hd)
  have n2 : (Value.ref (s.heap.objs.size + 1) :: us ++ ds).length = ps.length := by
    have z := r2.length
    rw [F.len _ _ _ _ go] at z
    exact z.symm
  refine wpAny_call (make_map (f := f) I.kIn M.makes M.init (beq_iff_eq.mp M.fn) (codeAny_mono (F.run _ X.stack _ _ ⟨Value.ref (s.heap.objs.size + 1) :: us, []⟩ (Value.ref (s.heap.objs.size + 1) :: (us ++ ds)) _ _ _ pp (L2H.RoomH.make hr C us []) ⟨hot.1, hot.2⟩ (pin_ok J mp) (J.env0.make C us [])
    (hb _ (Value.ref (s.heap.objs.size + 1) :: us) J.kIn n2) r2 go) ?_))
  intro r s' z
  match r, z with
  | .error e, z => exact (show False from z).elim
  | .ok .next, z => exact False.elim z
  | .ok .brk, z => exact False.elim z
  | .ok .cont, z => exact False.elim z
  | .ok (.ret u), z =>
    obtain ⟨v, H', I3, rv, rfl, q3⟩ := J.after z
    exact ⟨rv, V.ref (s.heap.objs.size + 1), H', I3, rfl, q3⟩
theorem pe_make0H (M : Mk X.K C f) (F : L2H.FnH X.prog X.w X.K X.mg X.base CX0 k f fd ps sp) (hr : L2H.RoomH (k + 1) X.A) (hc : L2H.HotC X) (hg : Gl X x) (hm : X.mg x = some (.ref C)) (hb : Binds X.K fd ps ds) (hd : Vals dvs ds) (hdb : (x == ("__debug__" : Str)) = false := by decide) :
    PE X (.Call (.Name x q) [] [] pos) (tMake C sp dvs E0 tNil) := by
  constructor
  intro pins s σ H Q I h
  refine wpAny_Call_Name_kw (ld_glob I hg hm ?_ hdb)
  exact PySem.W.callWith_K0 I.kIn M.kp (run_make0 (us := []) M F hr hc hb hd I .nil h)
theorem pe_makeH (M : Mk X.K C f) (F : L2H.FnH X.prog X.w X.K X.mg X.base CX0 k f fd ps sp) (hr : L2H.RoomH (k + 1) X.A) (hc : L2H.HotC X) (hg : Gl X x) (hm : X.mg x = some (.ref C)) (hb : Binds X.K fd ps ds) (hd : Vals dvs ds) (ha : PA X (e :: es) t) (hdb : (x == ("__debug__" : Str)) = false := by decide)
    (he : starEach (e :: es) X.env = (false, eval e X.env) :: starEach es X.env := by rfl) (hpl : (backTo pos (starEach es X.env)).any (·.1) = false := by rfl) : PE X (.Call (.Name x q) (e :: es) [] pos) (tMake C sp dvs E0 t) := by
  constructor
  intro pins s0 σ H0 Q I0 h0
  refine wpAny_Call_Name_kw (ld_glob I0 hg hm ?_ hdb)
  refine PySem.W.callWith_K (h₀ := X.base) I0.ok.mod.kin M.kp (thn (ha.run pos pins s0 σ H0 _ I0 h0) fun us s z => ?_) he hpl
  obtain ⟨vs, H1, I, r, q⟩ := z
  exact ⟨I.kIn, run_make0 M F hr hc hb hd I r q⟩
/-- o.f, a property -/
theorem pe_propH (he : PE X e ta) (c : Cls X.K C) (hp : PropOf X.K C nm p g) (F : L2H.FnH X.prog X.w X.K X.mg X.base CX0 k g fd ps sp) (hr : L2H.RoomH (k + 1) X.A) (hc : L2H.HotC X) (hb : Binds X.K fd ps []) (hab : attributeBase e nm X.env (eval e X.env) = eval e X.env := by rfl) : PE X (.Attribute e nm pos) (tProp C sp [] E0 ta) := by
  constructor
  intro pins s0 σ H0 Q I0 h0
  obtain ⟨pp, hot, mp⟩ := hc
  refine attr_of hab (thn (he.run pins s0 σ H0 _ I0 h0) fun u s z => ?_)
  obtain ⟨y, H, I, ry, a, dx, fs, rfl, ea, h⟩ := z
  obtain rfl : u = Value.ref a := ry
  obtain ⟨mA, O, _, _, _, _⟩ := ins_get I.hok ea
  obtain ⟨od, J, _⟩ := O.look
  obtain ⟨rest, hrec⟩ := hp.rec_
  have I1 := I.tok (s.toks + 1)
  have n1 : ([Value.ref a] ++ []).length = ps.length := (F.len _ _ _ _ h)
  have there : (PySem.W.clsIn X.K C).isSome = true := by
    obtain ⟨cd, z, _⟩ := PySem.W.any_some c.hd
    rw [z]
    rfl
  refine PySem.W.get_bind I.kIn J (PySem.W.plainGet_of (c.get nm)).1 (PySem.W.findObj_data there hp.at_ hp.get hp.tak) (PySem.W.plainGet_of (c.get nm)).2 (wpAny_call (PySem.W.prop_get (s := { s with toks := s.toks + 1 }) I.kIn hrec ?_))
  have b1 := hb { s with toks := s.toks + 1 } [.ref a] I1.kIn n1
  refine codeAny_mono (F.run X.A.in1 X.stack { s with toks := s.toks + 1 } H ⟨[.ref a], []⟩ [.ref a] [.ref a] Q E0 pp (roomH_in1 hr) ⟨hot.1, hot.2⟩ (pin_ok I1 mp) I1.env0.in1 b1 (.cons rfl .nil) h) ?_
  intro r s' z
  match r, z with
  | .error e, z => exact (show False from z).elim
  | .ok .next, z => exact False.elim z
  | .ok .brk, z => exact False.elim z
  | .ok .cont, z => exact False.elim z
  | .ok (.ret u), z =>
    obtain ⟨v, H', I3, rv, q3⟩ := I1.after z
    show wpAny _ _ (handedOut u) _ _ _
    rw [PySem.W.handedOut_of (handed_of rv)]
    exact wpAny_pure ⟨v, H', I3, rv, q3⟩
end
section
variable {P : Program} {w : World} {K : PySem.W.Frag} {mg : Str → Option Value} {base : Heap} {f C : Addr} {fd : FuncData}
theorem hot_in {CX : CXT} {N : List Str} {qual : Str} {scope : Scope} {cd : Value} {A : Around} {outer : List Env} {s : Shared} {H : Hp} {E : XK} {p : Addr × Obj} (hot : L2H.Hot1 A p) : L2H.HotC (L2H.cxH CX P w K mg base N qual scope f cd A outer s H E p) := ⟨p, ⟨hot.1, hot.2⟩, List.mem_singleton.mpr rfl⟩
theorem fun_hot {x qual : Str} {st : Stmt} {N ps : List Str} {k : Nat} {sp : Sp} (F : Fun K x qual st f fd) (S : FnScope N ps (defScope st)) (len : ∀ vs H Q E, sp vs H Q E → vs.length = ps.length)
    (hb : ∀ (cdv : Value) (A : Around) (out : List Env) (s : Shared) (H : Hp) (vs : List V) (Q : VK) (E : XK) (p : Addr × Obj), L2H.HotC (L2H.cxH CX0 P w K mg base N qual (defScope st) f cdv A out s H E p) → L2H.RoomH k (A.deeper (envOfC qual (defScope st) s.heap.objs.size f cdv)) → sp vs H Q E →
      ∃ t, PSs (L2H.cxH CX0 P w K mg base N qual (defScope st) f cdv A out s H E p) (defBody st) t ∧ t { nx := fun _ H' => Q .non H', rt := Q } (start N vs) H) : L2H.FnH P w K mg base CX0 (k + 1) f fd ps sp := by
  obtain ⟨oc, od, kV, doc, pm, an, cdv, ct, osl, rfl, lk, hcd⟩ := F.ex
  exact L2H.fn_ofH lk hcd S len fun A out s H vs Q E p hot hr h => hb cdv A out s H vs Q E p (hot_in hot) hr h
theorem fund_hot {x qual : Str} {st : Stmt} {N ps : List Str} {k : Nat} {sp : Sp} {dvs : List V} {kws : List (Str × V)} (F : FunD K x qual (defArgs st) (defBody st) (defScope st) dvs kws f fd) (S : FnScope N ps (defScope st)) (len : ∀ vs H Q E, sp vs H Q E → vs.length = ps.length)
    (hb : ∀ (cdv : Value) (A : Around) (out : List Env) (s : Shared) (H : Hp) (vs : List V) (Q : VK) (E : XK) (p : Addr × Obj), L2H.HotC (L2H.cxH CX0 P w K mg base N qual (defScope st) f cdv A out s H E p) → L2H.RoomH k (A.deeper (envOfC qual (defScope st) s.heap.objs.size f cdv)) → sp vs H Q E →
      ∃ t, PSs (L2H.cxH CX0 P w K mg base N qual (defScope st) f cdv A out s H E p) (defBody st) t ∧ t { nx := fun _ H' => Q .non H', rt := Q } (start N vs) H) : L2H.FnH P w K mg base CX0 (k + 1) f fd ps sp := by
  obtain ⟨oc, od, dV, kV, doc, pm, an, cdv, ct, osl, rfl, lk, hcd, _, _⟩ := F.ex
  exact L2H.fn_ofH lk hcd S len fun A out s H vs Q E p hot hr h => hb cdv A out s H vs Q E p (hot_in hot) hr h
def spSrt0 : Sp := fun vs H Q _ => ∃ d, vs = [.ref d] ∧ H d = some (.dT []) ∧ ∀ H' l, Same H H' → H l = none → H' l = some (.lst []) → Q (.ref l) H'
theorem srt_hot (T : Txt mg) (p : Pl K mg "sorted_paths" s_sorted_paths ["paths"] f fd) : L2H.FnH P w K mg base CX0 1 f fd ["paths"] spSrt0 := by
  have S := sc_sorted_paths
  refine fun_hot p.F S (fun vs H Q E h => ?_) (fun cdv A out s H vs Q E pp hc hr h => ?_)
  · obtain ⟨d, rfl, _⟩ := h
    rfl
  · obtain ⟨d, rfl, hd, q⟩ := h
    refine ⟨_, (pss_one (ps_ret (pe_lc0 hc S.nd (pi0_list (pe_callB cr_sortedS (by rfl) T.b_sorted (by decide +kernel) (pa_cons (pe_lock (pe_lc0 hc S.nd (pi0_keys (pv 0)) (blkOk_by (own := [("path", 2)]) (N := ["paths", "text", "path"]) (sc := defScope s_sorted_paths) (by decide +kernel)))) pa_nil))) (blkOk_by (own := [("text", 1)]) (N := ["paths", "text", "path"]) (sc := defScope s_sorted_paths) (by decide +kernel))))), ?_⟩
    refine ⟨d, _, hd, trivial, fun od => ?_⟩
    refine ⟨_, rfl, d, od, rfl, upd_same, fun D nD => ?_⟩
    have Dd : D ≠ d := fun z => by
      rw [z, upd_same] at nD
      cases nD
    have nD0 : H D = none := by
      rw [upd_ne Dd] at nD
      exact nD
    refine ⟨(upd_ne Dd.symm).trans upd_same, ?_⟩
    have s1 : Same H (upd (upd (upd H d (.frz od (.dT []))) D (.lst [])) d (.dT [])) := fun b o e => by
      by_cases z : b = d
      · rw [z] at e ⊢
        rw [upd_same, ← e, hd]
      · rw [upd_ne z, upd_ne (ne_of_none e nD0), upd_ne z]
        exact e
    have eD : upd (upd (upd H d (.frz od (.dT []))) D (.lst [])) d (.dT []) D = some (.lst []) := (upd_ne Dd).trans upd_same
    refine ⟨D, [], rfl, SqL.of eD, (by decide), fun ys l pm so nl => ?_⟩
    obtain rfl : ys = [] := List.Perm.eq_nil pm
    have s2 := same_new (o := .lst []) nl
    refine ⟨l, rfl, SqL.of upd_same, fun r nr => ?_⟩
    exact q _ r ((s1.trans s2).trans (same_new nr)) (Same.free s1 (Same.free s2 nr)) upd_same
def spLst0 (K : PySem.W.Frag) : Sp := fun vs H Q _ => ∃ p, vs = [.ref p] ∧ (SqL K H p [] ∨ SqT K H p []) ∧ ∀ H' l, Same H H' → H l = none → H' l = some (.lst []) → Q (.ref l) H'
theorem lst_hot (T : Txt mg) (p : Pl K mg "least_paths" s_least_paths ["paths"] f fd) (Sr : ∃ f fd, L2H.FnH P w K mg base CX0 1 f fd ["paths"] spSrt0 ∧ mg "sorted_paths" = some (.ref f) ∧ PySem.W.keepIn K (.ref f) = true ∧ Binds K fd ["paths"] []) : L2H.FnH P w K mg base CX0 2 f fd ["paths"] (spLst0 K) := by
  have S := sc_least_paths
  obtain ⟨g, gd, G, gm, gk, gb⟩ := Sr
  refine fun_hot p.F S (fun vs H Q E h => ?_) (fun cdv A out s H vs Q E pp hc hr h => ?_)
  · obtain ⟨p, rfl, _⟩ := h
    rfl
  · obtain ⟨p, rfl, hS, q⟩ := h
    rcases hS with hS | hS
    · refine ⟨_, (pss_cons (ps_set (i := 1) S.nd rfl (.inr rfl) (pe_dc0 hc S.nd (pi0_list (pv 0)) (blkOk_by (own := [("path", 2)]) (N := ["paths", "given", "path"]) (sc := defScope s_least_paths) (by decide +kernel))))
      (pss_one (ps_ret (pe_lc0 hc S.nd (pi0_list (L2H.pe_callH (E := fun _ => E0) G (L2H.RoomH.mono hr (by decide)) hc (by rfl) gm gk gb (fun _ _ _ _ _ _ _ h => h.elim) (pa_cons (pv 1) pa_nil))) (blkOk_by (own := [("path", 2)]) (N := ["paths", "given", "path"]) (sc := defScope s_least_paths) (by decide +kernel)))))), ?_⟩
      refine ⟨_, rfl, p, rfl, hS, fun D nD => ?_⟩
      refine ⟨_, rfl, D, rfl, upd_same, fun H1 l s1 nl hl => ?_⟩
      have s0 := (same_new (o := .dT []) nD).trans s1
      exact ⟨l, rfl, SqL.of hl, fun r nr => q _ r (s0.trans (same_new nr)) (Same.free s0 nr) upd_same⟩
    · refine ⟨_, (pss_cons (ps_set (i := 1) S.nd rfl (.inr rfl) (pe_dc0 hc S.nd (pi0_tup (pv 0)) (blkOk_by (own := [("path", 2)]) (N := ["paths", "given", "path"]) (sc := defScope s_least_paths) (by decide +kernel))))
      (pss_one (ps_ret (pe_lc0 hc S.nd (pi0_list (L2H.pe_callH (E := fun _ => E0) G (L2H.RoomH.mono hr (by decide)) hc (by rfl) gm gk gb (fun _ _ _ _ _ _ _ h => h.elim) (pa_cons (pv 1) pa_nil))) (blkOk_by (own := [("path", 2)]) (N := ["paths", "given", "path"]) (sc := defScope s_least_paths) (by decide +kernel)))))), ?_⟩
      refine ⟨_, rfl, p, rfl, hS, fun D nD => ?_⟩
      refine ⟨_, rfl, D, rfl, upd_same, fun H1 l s1 nl hl => ?_⟩
      have s0 := (same_new (o := .dT []) nD).trans s1
      exact ⟨l, rfl, SqL.of hl, fun r nr => q _ r (s0.trans (same_new nr)) (Same.free s0 nr) upd_same⟩
def spInit0 (K : PySem.W.Frag) (C : Addr) : Sp := fun vs H Q _ => ∃ (x dx p : Addr), vs = [.ref x, .ref p] ∧ H x = some (.ins C dx []) ∧ (SqL K H p [] ∨ SqT K H p []) ∧ ∀ H' l, ExB x H H' → H' x = some (.ins C dx (mF l)) → H' l.1 = some (.lst []) → Q .non H'
theorem init_hot (T : Txt mg) (M : Mc K mg C) {dvs : List V} (F : FunD K "__init__" "Mask.__init__" (defArgs s_Mask_init) (defBody s_Mask_init) (defScope s_Mask_init) dvs [] f fd) (Ls : ∃ f fd, L2H.FnH P w K mg base CX0 2 f fd ["paths"] (spLst0 K) ∧ mg "least_paths" = some (.ref f) ∧ PySem.W.keepIn K (.ref f) = true ∧ Binds K fd ["paths"] []) : L2H.FnH P w K mg base CX0 5 f fd ["self", "paths"] (spInit0 K C) := by
  have S := sc_Mask_init
  obtain ⟨g, gd, G, gm, gk, gb⟩ := Ls
  refine fund_hot F S (fun vs H Q E h => ?_) (fun cdv A out s H vs Q E pp hc hr h => ?_)
  · obtain ⟨x, dx, p, rfl, _⟩ := h
    rfl
  · obtain ⟨x, dx, p, rfl, hx, hS, q⟩ := h
    have po : PassesOwn (model P w) (L2H.cxH CX0 P w K mg base ["self", "paths", "path"] "Mask.__init__" (defScope s_Mask_init) f cdv A out s H E pp).A (L2H.cxH CX0 P w K mg base ["self", "paths", "path"] "Mask.__init__" (defScope s_Mask_init) f cdv A out s H E pp).env (L2H.cxH CX0 P w K mg base ["self", "paths", "path"] "Mask.__init__" (defScope s_Mask_init) f cdv A out s H E pp).xe := passes_of (X := L2H.cxH CX0 P w K mg base ["self", "paths", "path"] "Mask.__init__" (defScope s_Mask_init) f cdv A out s H E pp) rfl
    rcases hS with hS | hS
    · refine ⟨_, (pss_cons (ps_for0 po hc (pi0_list (pv 1)))
      (pss_cons (ps_fld (pv 0) (L2H.pe_callH (E := fun _ => E0) G (L2H.RoomH.mono hr (by decide)) hc (by rfl) gm gk gb (fun _ _ _ _ _ _ _ h => h.elim) (pa_cons (pv 1) pa_nil)) rfl)
      (pss_one (ps_fld (pv 0) (pe_dc0 hc S.nd (pi0_list (pe_fld (pv 0) rfl)) (blkOk_by (own := [("path", 2)]) (N := ["self", "paths", "path"]) (sc := defScope s_Mask_init) (by decide +kernel))) rfl)))), ?_⟩
      refine ⟨_, rfl, p, rfl, hS, ?_⟩
      refine ⟨_, rfl, p, rfl, .inl hS, fun H1 fo s1 nf hf => ?_⟩
      have hx1 := s1 _ _ hx
      refine ⟨_, rfl, x, C, dx, [], rfl, hx1, M.cl, M.na, by decide, ?_⟩
      have fx : fo ≠ x := (ne_of_none hx nf).symm
      have eA : upd H1 x (.ins C dx (putF "_rows" (.ref fo) [])) x = some (.ins C dx [(("_rows" : Str), V.ref fo)]) := upd_same
      have eF : upd H1 x (.ins C dx (putF "_rows" (.ref fo) [])) fo = some (.lst []) := (upd_ne fx).trans hf
      have xx : ExB x H1 (upd H1 x (.ins C dx (putF "_rows" (.ref fo) []))) := ExB.put
      have x2 : ExB x H (upd H1 x (.ins C dx (putF "_rows" (.ref fo) []))) := (ExB.of s1).trans xx
      generalize upd H1 x (.ins C dx (putF "_rows" (.ref fo) [])) = H2 at eA eF x2 ⊢
      refine ⟨_, rfl, x, C, dx, _, _, rfl, eA, M.cl, M.na, rfl, fo, rfl, SqL.of eF, fun D nD => ?_⟩
      have s3 := same_new (o := .dT []) nD
      have eA3 := s3 _ _ eA
      have eF3 := s3 _ _ eF
      refine ⟨_, rfl, x, C, dx, _, rfl, eA3, M.cl, M.nc, (by show 1 < 1000; decide), ?_⟩
      have x4 : ExB x (upd H2 D (.dT [])) (upd (upd H2 D (.dT [])) x (.ins C dx (putF "_covered" (.ref D) [(("_rows" : Str), V.ref fo)]))) := ExB.put
      exact q _ (fo, D) ((x2.trans (ExB.of s3)).trans x4) upd_same ((upd_ne fx).trans eF3)
    · refine ⟨_, (pss_cons (ps_for0 po hc (pi0_tup (pv 1)))
      (pss_cons (ps_fld (pv 0) (L2H.pe_callH (E := fun _ => E0) G (L2H.RoomH.mono hr (by decide)) hc (by rfl) gm gk gb (fun _ _ _ _ _ _ _ h => h.elim) (pa_cons (pv 1) pa_nil)) rfl)
      (pss_one (ps_fld (pv 0) (pe_dc0 hc S.nd (pi0_list (pe_fld (pv 0) rfl)) (blkOk_by (own := [("path", 2)]) (N := ["self", "paths", "path"]) (sc := defScope s_Mask_init) (by decide +kernel))) rfl)))), ?_⟩
      refine ⟨_, rfl, p, rfl, hS, ?_⟩
      refine ⟨_, rfl, p, rfl, .inr hS, fun H1 fo s1 nf hf => ?_⟩
      have hx1 := s1 _ _ hx
      refine ⟨_, rfl, x, C, dx, [], rfl, hx1, M.cl, M.na, by decide, ?_⟩
      have fx : fo ≠ x := (ne_of_none hx nf).symm
      have eA : upd H1 x (.ins C dx (putF "_rows" (.ref fo) [])) x = some (.ins C dx [(("_rows" : Str), V.ref fo)]) := upd_same
      have eF : upd H1 x (.ins C dx (putF "_rows" (.ref fo) [])) fo = some (.lst []) := (upd_ne fx).trans hf
      have xx : ExB x H1 (upd H1 x (.ins C dx (putF "_rows" (.ref fo) []))) := ExB.put
      have x2 : ExB x H (upd H1 x (.ins C dx (putF "_rows" (.ref fo) []))) := (ExB.of s1).trans xx
      generalize upd H1 x (.ins C dx (putF "_rows" (.ref fo) [])) = H2 at eA eF x2 ⊢
      refine ⟨_, rfl, x, C, dx, _, _, rfl, eA, M.cl, M.na, rfl, fo, rfl, SqL.of eF, fun D nD => ?_⟩
      have s3 := same_new (o := .dT []) nD
      have eA3 := s3 _ _ eA
      have eF3 := s3 _ _ eF
      refine ⟨_, rfl, x, C, dx, _, rfl, eA3, M.cl, M.nc, (by show 1 < 1000; decide), ?_⟩
      have x4 : ExB x (upd H2 D (.dT [])) (upd (upd H2 D (.dT [])) x (.ins C dx (putF "_covered" (.ref D) [(("_rows" : Str), V.ref fo)]))) := ExB.put
      exact q _ (fo, D) ((x2.trans (ExB.of s3)).trans x4) upd_same ((upd_ne fx).trans eF3)
def spPaths0 (C : Addr) : Sp := fun vs H Q _ => ∃ (a dx : Addr) (l : Addr × Addr), vs = [.ref a] ∧ H a = some (.ins C dx (mF l)) ∧ H l.1 = some (.lst []) ∧ ∀ H' r, Same H H' → H r = none → H' r = some (.lst []) → Q (.ref r) H'
abbrev s_Mask_paths : Stmt := inClass (top 16) 1
theorem sc_Mask_paths : FnScope ["self"] ["self"] (defScope s_Mask_paths) := ⟨rfl, rfl, rfl, by decide +kernel, rfl, by decide +kernel, by decide +kernel⟩
theorem paths_hot (T : Txt mg) (M : Mc K mg C) (F : Fun K "paths" "Mask.paths" s_Mask_paths f fd) : L2H.FnH P w K mg base CX0 1 f fd ["self"] (spPaths0 C) := by
  have S := sc_Mask_paths
  refine fun_hot F S (fun vs H Q E h => ?_) (fun cdv A out s H vs Q E pp hc hr h => ?_)
  · obtain ⟨a, dx, l, rfl, _⟩ := h
    rfl
  · obtain ⟨a, dx, l, rfl, ha, hl, q⟩ := h
    refine ⟨_, (pss_one (ps_ret (pe_callTy call_list_of (by rfl) T.b_list (by decide +kernel) (pa_cons (pe_fld (pv 0) rfl) pa_nil)))), ?_⟩
    refine ⟨_, rfl, a, C, dx, _, _, rfl, ha, M.cl, M.na, rfl, l.1, _, rfl, .inl (SqL.of hl), fun r nr => q _ r (same_new nr) nr upd_same⟩
end
end K09
set_option maxHeartbeats 16000000
namespace K09
open PySem PySem.Spec PyProof.Rows L2 Zk Zs Zo Zd Zx K14
structure Tx (mg : Str → Option Value) : Prop where
  b_len : mg "len" = none
  b_range : mg "range" = none
  b_max : mg "max" = none
  b_min : mg "min" = none
  b_repr : mg "repr" = none
  b_tuple : mg "tuple" = none
  b_list : mg "list" = none
theorem op_neDK2 {X : Cx} {K : PySem.W.Frag} (hK : X.K = K) (hu : X.A.units + 64 < cLine) : OpR X (compareOp .NotEq) (rNeD K) := by
  subst hK
  exact op_neD hu
theorem op_eqDK2 {X : Cx} {K : PySem.W.Frag} (hK : X.K = K) (hu : X.A.units + 64 < cLine) : OpR X (compareOp .Eq) (rEqD K) := by
  subst hK
  exact op_eqD hu
theorem hot_suite {X : Cx} {a : Addr} {oe : Obj} {cls : Value} {d : Option Addr} {pn : List (Addr × Obj)} (hz : L2N.Zn cls d oe) (hf : ∃ vs, oe.data = .fields vs) : L2H.HotC (X.suite a ((a, oe) :: pn)) := by
  obtain ⟨vs, e⟩ := hf
  exact ⟨(a, oe), ⟨rfl, vs, e, hz.2.2 vs e⟩, List.mem_cons_self⟩
/-- the class while an exception is handled -/
structure Mh (P : Program) (w : World) (K : PySem.W.Frag) (mg : Str → Option Value) (base : Heap) (C T0 : Addr) : Prop where
  h0 : ∃ f fd ds, Mk K C f ∧ L2H.FnH P w K mg base CX0 5 f fd ["self", "paths"] (spInit0 K C) ∧ Vals [V.ref T0] ds ∧ Binds K fd ["self", "paths"] ds
  h1 : ∃ f fd, Mk K C f ∧ L2H.FnH P w K mg base CX0 5 f fd ["self", "paths"] (spInit0 K C) ∧ Binds K fd ["self", "paths"] []
  hp : ∃ p g fd, PropOf K C "paths" p g ∧ L2H.FnH P w K mg base CX0 1 g fd ["self"] (spPaths0 C) ∧ Binds K fd ["self"] []
theorem dxa_rows {H : Hp} {vs : List V} {ks : List (List Str)} (h : PthA H vs ks) : DxA H vs (ks.map fun k => PyData.tuple (k.map PyData.str)) := by
  induction h with
  | nil => exact .nil
  | cons a _ ih => exact .cons (dx_row a) ih
theorem dxa_app {H : Hp} : ∀ {vs ws : List V} {ds es : List PyData}, DxA H vs ds → DxA H ws es → DxA H (vs ++ ws) (ds ++ es)
  | _, _, _, _, .nil, g => g
  | _, _, _, _, .cons a h, g => .cons a (dxa_app h g)
theorem dxa_take {H : Hp} : ∀ {vs : List V} {ds : List PyData} (n : Nat), DxA H vs ds → DxA H (vs.take n) (ds.take n)
  | _, _, 0, _ => by simpa using DxA.nil
  | _, _, n + 1, .nil => by simpa using DxA.nil
  | _, _, n + 1, .cons a h => .cons a (dxa_take n h)
theorem dxa_drop {H : Hp} : ∀ {vs : List V} {ds : List PyData} (n : Nat), DxA H vs ds → DxA H (vs.drop n) (ds.drop n)
  | _, _, 0, h => h
  | _, _, n + 1, .nil => .nil
  | _, _, n + 1, .cons a h => dxa_drop n h
theorem ins_at {α : Type} (xs zs : List α) (y : α) {n : Nat} (h : n ≤ xs.length) : (xs.take n ++ [y] ++ xs.drop n ++ zs)[n]? = some y := by
  have e : (xs.take n).length = n := by rw [List.length_take]; omega
  rw [List.append_assoc, List.append_assoc, List.getElem?_append_right (by omega), e, Nat.sub_self]
  rfl
theorem ins_before {α : Type} (xs zs : List α) (y : α) {n j : Nat} (h : n ≤ xs.length) (lt : j < n) : (xs.take n ++ [y] ++ xs.drop n ++ zs)[j]? = xs[j]? := by
  have e : (xs.take n).length = n := by rw [List.length_take]; omega
  rw [List.append_assoc, List.append_assoc, List.getElem?_append_left (by omega), List.getElem?_take_of_lt lt]
theorem PthA.cut {H : Hp} : ∀ {vs : List V} {ks : List (List Str)} (n : Nat), PthA H vs ks → PthA H (vs.take n) (ks.take n) := by
  intro vs ks n h
  induction h generalizing n with
  | nil => simpa using PthA.nil
  | cons a _ ih =>
    cases n with
    | zero => simpa using PthA.nil
    | succ n => exact .cons a (ih n)
theorem cut_nat (xs : List V) (n : Nat) : cutV xs none (some (n : Int)) = xs.take n := by
  unfold cutV
  rw [HT.sIx_nat, HT.sIx_none, List.drop_zero, Nat.sub_zero]
  by_cases h : n ≤ xs.length
  · rw [Nat.min_eq_left h]
  · rw [Nat.min_eq_right (by omega), List.take_of_length_le (Nat.le_refl _), List.take_of_length_le (by omega)]
theorem exb_hid {q : Addr} {A B : Hp} (x : ExB q A B) : Same (hid q A) B := fun b o e => by
  by_cases z : b = q
  · rw [z, hid_self] at e
    cases e
  · rw [hid_ne z] at e
    exact x b o z e
theorem well_lst {H H' : Hp} {p l : Addr} {us : List V} (w : WellAt H p) (x : ExB p H H') (e : H l = some (.lst us)) : H' l = some (.lst us) := by
  obtain ⟨d, mm, hw, _⟩ := w
  exact x _ _ (ne_of e hw (fun z => by cases z)) e
theorem well_pth {H H' : Hp} {p : Addr} {us : List V} {ks : List (List Str)} (w : WellAt H p) (x : ExB p H H') (e : PthA H us ks) : PthA H' us ks := by
  obtain ⟨d, mm, hw, _⟩ := w
  exact e.exb x hw (fun ys z => by cases z)
theorem well_nlst {H : Hp} {p l : Addr} {us : List V} (w : WellAt H p) (e : H l = some (.lst us)) : p ≠ l := by
  obtain ⟨d, mm, hw, _⟩ := w
  exact fun z => by
    rw [z, e] at hw
    cases hw
def spLaw (K : PySem.W.Frag) : Sp := fun vs H Q _ => ∃ (a : Addr) (ns : List Int), vs = [.ref a] ∧ SqL K H a (ns.map V.int) ∧ ns.length ≤ 63 ∧ (∀ z ∈ ns, bits z ≤ 1048576) ∧ ∀ H', Q (.bl true) H'
section
variable {P : Program} {w : World} {K : PySem.W.Frag} {mg : Str → Option Value} {base : Heap} {f C CB T0 : Addr} {fd : FuncData}
abbrev s_law : Stmt := K14.top 28
theorem sc_law : FnScope ["script", "start", "tape", "turn", "paths", "kept", "due", "mask", "told", "first", "second", "wrong", "own", "error"] ["script"] (defScope s_law) := ⟨rfl, rfl, rfl, by decide +kernel, rfl, by decide +kernel, by decide +kernel⟩
/-- what the suite wants: own and the error in their slots, the error's value is own -/
def tSui (CB a' : Addr) (cls : Value) (d : Option Addr) : TS := fun D σ H => ∃ (ow dd : Addr), σ[12]? = some (some (.ref ow)) ∧ σ[13]? = some (some (.ref a')) ∧ cls = .ref CB ∧ d = some dd ∧ H dd = some (.xd [(("value" : Str), V.ref ow)]) ∧ H ow = some (.lst [V.str "a"]) ∧ ∀ H', D.rt (.bl true) H'
def s_suite : List Stmt := match (defBody s_law).getD 2 (.Pass ⟨0, 0, 0, 0⟩) with
  | .Try _ [.ExceptHandler _ _ b _] _ _ _ => b
  | _ => []
theorem ok_law (T : Tx mg) (SY : ∃ o, base.get? sysModules = some o) (F : Fun K "law" "law" s_law f fd) (MY : My P w K mg base C T0) (MZ : Mz P w K mg base C) (MB : Mb P w K mg base C CB) (MH : Mh P w K mg base C T0) (D_law_tape : Dfo P w K mg base 1 "_law_tape" ["script", "start"] (spWell K)) (D_law_pick : Dfo P w K mg base 1 "_law_pick" ["tape", "many"] spDraw) (D_law_one_of : Dfo P w K mg base 2 "_law_one_of" ["tape", "items"] (spChoose K)) (D_law_drawn : Dfo P w K mg base 4 "_law_drawn" ["tape"] spDrawn) (D_law_fewest : Dfo P w K mg base 3 "_law_fewest" ["paths"] (KF.spFewest K)) (D_law_odd : Dfo P w K mg base 3 "_law_odd" ["tape"] spOdd) (D_law_caught : Dfo P w K mg base 7 "_law_caught" ["paths"] (spCaught K)) : GOk P w K mg base CX0 9 f fd ["script"] (spLaw K) := by
  have S := sc_law
  obtain ⟨pr, gp, fp, pp, Fp, bp⟩ := MZ.pr
  obtain ⟨g, gd, mk, G, bG⟩ := MB.bad
  obtain ⟨g0, gd0, ds0, mk0, F0, v0, b0⟩ := MH.h0
  obtain ⟨g1, gd1, mk1, F1, b1⟩ := MH.h1
  obtain ⟨pr2, gq, fq, pq, Fq, bq⟩ := MH.hp
  refine Fun_okG F S (fun vs H Q E h => ?_) (fun cdv A out s H vs Q E hgd hr h => ?_)
  · obtain ⟨a, ns, rfl, _⟩ := h
    rfl
  · obtain ⟨a, ns, rfl, hS, hlen, hb, q⟩ := h
    have SU : ∀ (a' : Addr) (oe : Obj) (cls : Value) (d : Option Addr) (pn : List (Addr × Obj)), L2N.Zn cls d oe → (∃ vs, oe.data = .fields vs) → PSs (Cx.suite ((cxOf CX0 P w K mg base ["script", "start", "tape", "turn", "paths", "kept", "due", "mask", "told", "first", "second", "wrong", "own", "error"] "law" (defScope s_law) f cdv A out s H E).nox) a' ((a', oe) :: pn)) s_suite (tSui CB a' cls d) := by
      intro a' oe cls d pn hz hf
      suffices z : ∃ t, PSs (Cx.suite ((cxOf CX0 P w K mg base ["script", "start", "tape", "turn", "paths", "kept", "due", "mask", "told", "first", "second", "wrong", "own", "error"] "law" (defScope s_law) f cdv A out s H E).nox) a' ((a', oe) :: pn)) s_suite t ∧ ∀ D σ H, tSui CB a' cls d D σ H → t D σ H by
        obtain ⟨t, z1, z2⟩ := z
        exact ⟨fun pins s σ H D I h => z1.run pins s σ H D I (z2 _ _ _ h)⟩
      refine' ⟨_, pss_cons (ps_expr (pe_bm PySem.F.plainAttrs_list PySem.F.slot_list_append PySem.F.type_list_append (?mt : MtR _ "list.append" rAppend) (pv 12) (pa_cons pe_str pa_nil)))
          (pss_one (ps_ret (pe_and (pe_cmpR (op_eqDK2 (K := K) rfl hr.units) (pe_xf MB.xf MB.er.no hz.zc hf (pv 13)) (pe_lst (pa_cons pe_str (pa_cons pe_str pa_nil))) (nomark _))
            (pe_and (pe_cmpR (op_eqDK2 (K := K) rfl hr.units) (pe_propH (pe_make0H mk0 F0 (L2H.roomH_mark (hr.mono (by decide)) _) (hot_suite hz hf) (by rfl) MB.m b0 v0) MY.cl pq Fq (L2H.roomH_mark (hr.mono (by decide)) _) (hot_suite hz hf) bq) (pe_lst pa_nil) (nomark _))
            (pe_one (pe_cmpR (op_eqDK2 (K := K) rfl hr.units) (pe_propH (pe_makeH mk1 F1 (L2H.roomH_mark (hr.mono (by decide)) _) (hot_suite hz hf) (by rfl) MB.m b1 .nil (pa_cons (pe_lst pa_nil) pa_nil)) MY.cl pq Fq (L2H.roomH_mark (hr.mono (by decide)) _) (hot_suite hz hf) bq) (pe_lst pa_nil) (nomark _))))))), fun D σ H hh => ?rd⟩
      case mt => exact mt_append
      obtain ⟨ow, dd, s12, s13, ec, ed, hx, ho, fin⟩ := hh
      have dne : dd ≠ ow := fun z => by
        rw [z, ho] at hx
        cases hx
      refine ⟨_, s12, .inl ⟨rfl, _, SqL.of ho⟩, ow, _, _, rfl, rfl, ho, (by show 1 < sizeLine; decide), ?_⟩
      have ho2 : upd H ow (.lst ([V.str "a"] ++ [V.str "b"])) ow = some (.lst ((["a", "b"] : List Str).map V.str)) := upd_same
      have hx2 : upd H ow (.lst ([V.str "a"] ++ [V.str "b"])) dd = some (.xd [(("value" : Str), V.ref ow)]) := (upd_ne dne).trans hx
      generalize upd H ow (.lst ([V.str "a"] ++ [V.str "b"])) = J1 at ho2 hx2 ⊢
      have ab : PyData.eqv (.list ((["a", "b"] : List Str).map PyData.str)) (.list ((["a", "b"] : List Str).map PyData.str)) = true := by decide +kernel
      have nn : PyData.eqv (.list []) (.list []) = true := by decide +kernel
      refine ⟨_, s13, rfl, ec, dd, _, .ref ow, ed, hx2, rfl, (by show 2 ≤ sizeLine; decide), fun l nl => ?_⟩
      have j1 := same_new (o := .lst ((["a", "b"] : List Str).map V.str)) nl
      refine ⟨_, _, .lst (SqL.of (j1 _ _ ho2)) (dpAll_strs ["a", "b"]), .lst (SqL.of upd_same) (dpAll_strs ["a", "b"]), by decide +kernel, by decide +kernel, ⟨_, rfl, ?_⟩⟩
      rw [ab]
      refine iteT (fun x dx nx nd ne => ⟨x, dx, T0, rfl, upd_same, .inr (MY.t0 _), fun J2 l2 xb ha hl => ⟨rfl, x, dx, _, rfl, ha, x, dx, l2, rfl, ha, hl, fun J3 r s3 nr er => ?_⟩⟩)
      refine ⟨(by show 0 ≤ sizeLine; decide), fun l4 nl4 => ?_⟩
      refine ⟨_, _, .lst (SqL.of (same_new nl4 _ _ er)) .nil, .lst (SqL.of upd_same) .nil, by decide +kernel, by decide +kernel, ⟨_, rfl, ?_⟩⟩
      rw [nn]
      refine iteT ⟨(by show 0 ≤ sizeLine; decide), fun l5 nl5 => fun x2 dx2 nx2 nd2 ne2 => ⟨x2, dx2, l5, rfl, upd_same, .inl ?_, fun J4 l6 xb2 ha2 hl2 => ⟨rfl, x2, dx2, _, rfl, ha2, x2, dx2, l6, rfl, ha2, hl2, fun J5 r2 s5 nr2 er2 => ?_⟩⟩⟩
      · have y1 := upd_same (H := upd J3 l4 (.lst [])) (a := l5) (o := .lst [])
        refine SqL.of ?_
        rw [upd_ne (ne_of_none y1 nx2), upd_ne (ne_of_none y1 nd2)]
        exact y1
      refine ⟨(by show 0 ≤ sizeLine; decide), fun l7 nl7 => ?_⟩
      refine ⟨_, _, .lst (SqL.of (same_new nl7 _ _ er2)) .nil, .lst (SqL.of upd_same) .nil, by decide +kernel, by decide +kernel, ?_⟩
      rw [nn]
      exact fin _
    refine ⟨_, (pss_cons (ps_for PassesOwn.never rfl (pi_range1 (by rfl) T.b_range (pa_cons (pe_callB (call_max2 rfl) (by rfl) T.b_max (by decide +kernel) (pa_cons pe_int (pa_cons (pe_callB (call_min2 rfl) (by rfl) T.b_min (by decide +kernel) (pa_cons pe_int (pa_cons (pe_callB call_len_seq (by rfl) T.b_len (by decide +kernel) (pa_cons (pv 0) pa_nil)) pa_nil))) pa_nil))) pa_nil)) (pg_name (i := 1) S.nd rfl (.inl rfl))
      (pss_cons (ps_set (i := 2) S.nd rfl (.inl rfl) (po_call D_law_tape (hr.mono (by decide)) (by rfl) (pa_cons (pv 0) (pa_cons (pv 1) pa_nil))))
      (pss_one (ps_for PassesOwn.never rfl (pi_range1 (by rfl) T.b_range (pa_cons pe_int pa_nil)) (pg_name (i := 3) S.nd rfl (.inl rfl))
        (pss_cons (ps_set (i := 4) S.nd rfl (.inl rfl) (po_call D_law_drawn (hr.mono (by decide)) (by rfl) (pa_cons (pv 2) pa_nil)))
        (pss_cons (ps_set (i := 4) S.nd rfl (.inl rfl) (pe_op op_cat (pv 4) (pe_slice sl_list (pv 4) po_none (po_some (po_call D_law_pick (hr.mono (by decide)) (by rfl) (pa_cons (pv 2) (pa_cons pe_int pa_nil)))))))
        (pss_cons (ps_par (i := 5) (j := 6) (by rfl) S.nd rfl rfl (by decide) rfl rfl (pa_cons (pe_callTy call_list_of (by rfl) T.b_list (by decide +kernel) (pa_cons (pv 4) pa_nil)) (pa_cons (po_call D_law_fewest (hr.mono (by decide)) (by rfl) (pa_cons (pv 4) pa_nil)) pa_nil)) (by rfl))
        (pss_cons (ps_set (i := 7) S.nd rfl (.inl rfl) (pe_mask MY.mx MY.m (hr.mono (by decide)) (by rfl) (pa_cons (po_call D_law_one_of (hr.mono (by decide)) (by rfl) (pa_cons (pv 2) (pa_cons (pe_lst (pa_cons (pv 4) (pa_cons (pe_callTy (call_tupleK (K := K) rfl) (by rfl) T.b_tuple (by decide +kernel) (pa_cons (pv 4) pa_nil)) pa_nil))) pa_nil))) pa_nil)))
        (pss_cons (ps_if (PW.pt (pw_or (pt_cmpR (op_neDK2 (K := K) rfl hr.units) (pe_prop (pv 7) MY.cl pp Fp (hr.mono (by decide)) bp .nil pass0 rfl) (pv 6) (nomark _)) (pw_or1 (pt_cmpR (op_neDK2 (K := K) rfl hr.units) (pv 4) (pv 5) (nomark _)))))
          (pss_one (ps_ret pe_bl))
          pss_nil)
        (pss_cons (ps_expr (pe_bm PySem.F.plainAttrs_list PySem.F.slot_list_append PySem.F.type_list_append mt_append (pv 4) (pa_cons (pe_tup (pa_cons pe_str pa_nil)) pa_nil)))
        (pss_cons (ps_set (i := 8) S.nd rfl (.inl rfl) (pe_prop (pv 7) MY.cl pp Fp (hr.mono (by decide)) bp .nil pass0 rfl))
        (pss_cons (ps_expr (pe_bm PySem.F.plainAttrs_list PySem.F.slot_list_append PySem.F.type_list_append mt_append (pv 8) (pa_cons (pe_tup (pa_cons pe_str pa_nil)) pa_nil)))
        (pss_cons (ps_if (pt_cmpR (op_neDK2 (K := K) rfl hr.units) (pe_prop (pv 7) MY.cl pp Fp (hr.mono (by decide)) bp .nil pass0 rfl) (pv 6) (nomark _))
          (pss_one (ps_ret pe_bl))
          pss_nil)
        (pss_cons (ps_par (i := 9) (j := 10) (by rfl) S.nd rfl rfl (by decide) rfl rfl (pa_cons (po_call D_law_odd (hr.mono (by decide)) (by rfl) (pa_cons (pv 2) pa_nil)) (pa_cons (po_call D_law_odd (hr.mono (by decide)) (by rfl) (pa_cons (pv 2) pa_nil)) pa_nil)) (by rfl))
        (pss_cons (ps_set (i := 11) S.nd rfl (.inl rfl) (pe_callTy call_list_of (by rfl) T.b_list (by decide +kernel) (pa_cons (pv 5) pa_nil)))
        (pss_cons (ps_expr (pe_bm PySem.F.plainAttrs_list PySem.F.slot_list_insert PySem.F.type_list_insert mt_insert (pv 11) (pa_cons (po_call D_law_pick (hr.mono (by decide)) (by rfl) (pa_cons (pv 2) (pa_cons (pe_op op_add (pe_callB call_len_seq (by rfl) T.b_len (by decide +kernel) (pa_cons (pv 11) pa_nil)) pe_int) pa_nil))) (pa_cons (pv 9) pa_nil))))
        (pss_one (ps_if (pt_cmpR op_ne (pe_callB (call_repr (S := True) (fun _ => SY) hgd hr.units) (by rfl) T.b_repr (by decide +kernel) (pa_cons (po_call D_law_caught (hr.mono (by decide)) (by rfl) (pa_cons (pe_op op_cat (pv 11) (pe_lst (pa_cons (pv 10) pa_nil))) pa_nil)) pa_nil)) (pe_callB (call_repr (S := True) (fun _ => SY) hgd hr.units) (by rfl) T.b_repr (by decide +kernel) (pa_cons (pe_lst (pa_cons (pv 9) pa_nil)) pa_nil)) (nomark _))
          (pss_one (ps_ret pe_bl))
          pss_nil))))))))))))))))))
    (pss_cons (ps_set (i := 12) S.nd rfl (.inl rfl) (pe_lst (pa_cons pe_str pa_nil)))
    (pss_cons (L2N.ps_try_as (X := ((cxOf CX0 P w K mg base ["script", "start", "tape", "turn", "paths", "kept", "due", "mask", "told", "first", "second", "wrong", "own", "error"] "law" (defScope s_law) f cdv A out s H E).nox)) (i := 13) (Wout := fun _ _ _ _ => False) rfl rfl S.nd rfl rfl ⟨(by rfl), (by decide), .inl MB.er.m⟩ (fun u s' z => by obtain ⟨_, _, _, _, _, _, _, _, _, _, _, _, _, _, _, _, z⟩ := z; exact z.elim)
        (fun W pn xe tk po => pss_one (ps_expr (pe_makeS (E := WE W) mk G (hr.mono (by decide)) (by rfl) MB.m bG (fun σ => L2N.passAt tk σ) (pa_cons (pe_lst (pa_cons (pe_tup (pa_cons pe_str pa_nil)) (pa_cons (pv 12) pa_nil))) pa_nil))))
        (ts := fun a' cls d => tSui CB a' cls d) (fun a' oe cls d pn hz hf => SU a' oe cls d pn hz hf))
    (pss_one (ps_ret pe_bl))))), ?_⟩
    refine ⟨_, rfl, a, _, rfl, .inl hS, _, _, rfl, _, _, rfl, _, rfl, ?_, ?_, ?_⟩
    · show -(2 ^ 62) ≤ (if (if ((ns.map V.int).length : Int) < 4 then ((ns.map V.int).length : Int) else 4) > 2 then (if ((ns.map V.int).length : Int) < 4 then ((ns.map V.int).length : Int) else 4) else 2)
      split <;> (try split) <;> omega
    · show (if (if ((ns.map V.int).length : Int) < 4 then ((ns.map V.int).length : Int) else 4) > 2 then (if ((ns.map V.int).length : Int) < 4 then ((ns.map V.int).length : Int) else 4) else 2) < 2 ^ 62
      split <;> (try split) <;> omega
    have top4 : (if (if ((ns.map V.int).length : Int) < 4 then ((ns.map V.int).length : Int) else 4) > 2 then (if ((ns.map V.int).length : Int) < 4 then ((ns.map V.int).length : Int) else 4) else 2) ≤ (4 : Int) := by
      split <;> (try split) <;> omega
    generalize (if (if ((ns.map V.int).length : Int) < 4 then ((ns.map V.int).length : Int) else 4) > 2 then (if ((ns.map V.int).length : Int) < 4 then ((ns.map V.int).length : Int) else 4) else 2) = top at top4
    refine for_range (lo := 0) (n := top.toNat) (fun i σ H' => Same H H' ∧ ∃ y_start y_tape y_turn y_paths y_kept y_due y_mask y_told y_first y_second y_wrong y_own y_error, σ = [some (.ref a), y_start, y_tape, y_turn, y_paths, y_kept, y_due, y_mask, y_told, y_first, y_second, y_wrong, y_own, y_error]) ⟨Same.refl H, _, _, _, _, _, _, _, _, _, _, _, _, _, rfl⟩ (fun t σ H' ht hP => ?_) (fun σ H' hP => ?_)
    · obtain ⟨sm, y_start, y_tape, y_turn, y_paths, y_kept, y_due, y_mask, y_told, y_first, y_second, y_wrong, y_own, y_error, rfl⟩ := hP
      refine ⟨_, rfl, _, rfl, a, ns, _, rfl, sm.seq hS, hlen, hb, by omega, by omega, fun H1 p s1 np w1 => ?_⟩
      have sm1 := sm.trans s1
      have np0 : H p = none := Same.free sm np
      refine ⟨10, rfl, by decide, by decide, for_range (lo := 0) (n := 10) (fun i σ H' => Same H H' ∧ WellAt H' p ∧ ∃ y_turn y_paths y_kept y_due y_mask y_told y_first y_second y_wrong y_own y_error, σ = [some (.ref a), some (.int (0 + (t : Int))), some (.ref p), y_turn, y_paths, y_kept, y_due, y_mask, y_told, y_first, y_second, y_wrong, y_own, y_error]) ⟨sm1, w1, _, _, _, _, _, _, _, _, _, _, _, rfl⟩ (fun j σ H2 hj hP => ?_) (fun σ H2 hP => ?_)⟩
      · obtain ⟨sm2, w2, y_turn, y_paths, y_kept, y_due, y_mask, y_told, y_first, y_second, y_wrong, y_own, y_error, rfl⟩ := hP
        refine ⟨_, rfl, p, rfl, w2, fun H3 l1 us ks x3 w3 n1 e1 p1 len1 ok1 => ?_⟩
        have sm3 : Same H H3 := ExB.same x3 np0 sm2
        have on1 : ∀ k ∈ ks, okN k := fun k hk => okN_of (ok1 k hk)
        have lu := p1.len
        clear x3 w2 n1 sm2
        -- some of them twice
        refine ⟨_, rfl, _, rfl, _, rfl, p, 3, rfl, w3, by decide, by decide, fun H4 r x4 w4 r0 r1 => ⟨_, rfl, l1, us, rfl, SqL.of (well_lst w3 x4 e1), fun q1 nq1 => ?_⟩⟩
        have sm4 : Same H H4 := ExB.same x4 np0 sm3
        have e1 := well_lst w3 x4 e1
        have p1 := well_pth w3 x4 p1
        obtain ⟨m, rfl⟩ : ∃ m : Nat, r = m := ⟨r.toNat, by omega⟩
        rw [cut_nat]
        have t1 := same_new (o := .lst (us.take m)) nq1
        have lt := List.length_take_le m us
        refine ⟨l1, q1, us, us.take m, rfl, rfl, t1 _ _ e1, upd_same, Nat.le_of_lt (small1000 (by omega)), fun l2 nl2 => ?_⟩
        have t2 := same_new (o := .lst (us ++ us.take m)) nl2
        have p2 : PthA (upd (upd H4 q1 (.lst (us.take m))) l2 (.lst (us ++ us.take m))) (us ++ us.take m) (ks ++ ks.take m) := (p1.mono (t1.trans t2)).app ((PthA.cut m p1).mono (t1.trans t2))
        have e2 := upd_same (H := upd H4 q1 (.lst (us.take m))) (a := l2) (o := .lst (us ++ us.take m))
        have n2 : H4 l2 = none := Same.free t1 nl2
        have w5 := (w4.same t1).same t2
        have sm5 := (sm4.trans t1).trans t2
        have on2 : ∀ k ∈ ks ++ ks.take m, okN k := fun k hk => by
          rcases List.mem_append.mp hk with z | z
          · exact on1 k z
          · exact on1 k (List.mem_of_mem_take z)
        have l22 : (ks ++ ks.take m).length ≤ 12 := by
          have := List.length_take_le m ks
          rw [List.length_append]
          omega
        have nlH : H l2 = none := Same.free sm4 n2
        generalize us ++ us.take m = vs at p2 e2 w5 sm5 ⊢
        generalize ks ++ ks.take m = zs at p2 on2 l22 ⊢
        generalize upd (upd H4 q1 (.lst (us.take m))) l2 (.lst vs) = H5 at p2 e2 w5 sm5 ⊢
        clear t1 t2 nq1 nl2 e1 p1 x4 w3 w4 sm3 sm4 n2 on1 len1 ok1 lu lt
        have lz := p2.len
        -- kept, due
        refine ⟨_, rfl, l2, vs, rfl, .inl (SqL.of e2), fun k1 nk1 => ?_⟩
        have t1 := same_new (o := .lst vs) nk1
        refine ⟨_, rfl, l2, vs, zs, rfl, SqL.of (t1 _ _ e2), p2.mono t1, (fun k hk => (on2 k hk).1), by omega, fun H6 d ws ls s6 nd ed pd pm so => ⟨_, _, rfl, ?_⟩⟩
        have ek := s6 _ _ (upd_same (H := H5) (a := k1) (o := .lst vs))
        have t6 := t1.trans s6
        have kl : k1 ≠ l2 := (ne_of_none e2 nk1).symm
        have dl : d ≠ l2 := (ne_of_none (t1 _ _ e2) nd).symm
        have e2 := t6 _ _ e2
        have p2 := p2.mono t6
        have w6 := w5.same t6
        have sm6 := sm5.trans t6
        have ow : ∀ k ∈ fewL ls, okK k := fun k hk => (on2 k (pm.mem_iff.mp (fewL_sub hk))).1
        clear t1 s6 t6 nk1 nd w5 sm5
        -- the mask, of a list or of a tuple
        refine ⟨_, rfl, _, rfl, _, rfl, l2, vs, rfl, .inl ⟨SqL.of e2, fun tu ntu => ?_⟩⟩
        have t1 := same_new (o := .tup vs) ntu
        refine ⟨(by show 2 ≤ sizeLine; decide), fun ll nll => ?_⟩
        have t2 := same_new (o := .lst [.ref l2, .ref tu]) nll
        have t12 := t1.trans t2
        refine ⟨p, ll, _, rfl, w6.same t12, SqL.of upd_same, (fun z => by cases z), (by show 2 ≤ 1000000; decide), fun H7 v7 x7 w7 hv7 => fun x dx nx nd ne => ?_⟩
        have w6t := w6.same t12
        have etu := x7 _ _ (well_not w6 ntu) (t2 _ _ (upd_same (H := H6) (a := tu) (o := .tup vs)))
        have e2 := well_lst w6t x7 (t12 _ _ e2)
        have p2 := well_pth w6t x7 (p2.mono t12)
        have ek := well_lst w6t x7 (t12 _ _ ek)
        have ed := well_lst w6t x7 (t12 _ _ ed)
        have pd := well_pth w6t x7 (pd.mono t12)
        have sm7 : Same H H7 := ExB.same x7 np0 (sm6.trans t12)
        obtain ⟨pv, rfl, hpv⟩ : ∃ pv, v7 = .ref pv ∧ (SqL K H7 pv vs ∨ SqT K H7 pv vs) := by
          simp only [List.mem_cons, List.not_mem_nil, or_false] at hv7
          rcases hv7 with rfl | rfl
          · exact ⟨_, rfl, .inl (SqL.of e2)⟩
          · exact ⟨_, rfl, .inr (SqT.of etu)⟩
        clear t1 t2 t12 ntu nll x7 w6t w6 sm6 etu hv7
        refine mk_go (p := pv) (us := vs) (ks := zs) nx nd ne hpv p2 on2 (by omega) (fun H8 la s8 ma mh pa sa => ?_)
        obtain rfl : la = ls := srt_uniq _ _ sa so (pa.trans pm.symm)
        have mh := mh l2 _ e2 (fun ys z => by cases z)
        have e2 := s8 _ _ e2
        have p2 := p2.mono s8
        have ek := s8 _ _ ek
        have ed := s8 _ _ ed
        have pd := pd.mono s8
        have w8 := w7.same s8
        have sm8 := sm7.trans s8
        clear s8 nx nd ne hpv pa sa w7 sm7
        -- its paths; what was handed in
        obtain ⟨dxm, lxm, vxm, exm, rxm⟩ := id ma
        refine ⟨_, rfl, x, dxm, _, rfl, exm, x, _, rfl, ma, fun H9 lp wp s9 nlp elp plp => ⟨_, rfl, ?_⟩⟩
        refine ne_rows (SqL.of elp) (SqL.of (s9 _ _ ed)) plp (pd.mono s9) ow ow ⟨_, rfl, ?_⟩
        rw [decide_eq_true rfl]
        refine iteF ?_
        have e2 := s9 _ _ e2
        have p2 := p2.mono s9
        have ek := s9 _ _ ek
        have ed := s9 _ _ ed
        have pd := pd.mono s9
        have w9 := w8.same s9
        have sm9 := sm8.trans s9
        refine ⟨_, rfl, _, rfl, ne_rows (SqL.of e2) (SqL.of ek) p2 p2 (fun k hk => (on2 k hk).1) (fun k hk => (on2 k hk).1) ⟨_, rfl, ?_⟩⟩
        rw [decide_eq_true rfl]
        refine iteF ?_
        have hh : Same (hid l2 H8) (hid l2 H9) := (ExB.of s9).hid
        have mh := mh.mono hh
        have ekh : hid l2 H9 k1 = some (.lst vs) := by
          rw [hid_ne kl]
          exact ek
        have edh : hid l2 H9 d = some (.lst ws) := by
          rw [hid_ne dl]
          exact ed
        have two : ∀ {ts : List V} {js : List (List Str)}, PthA H9 ts js → PthA (hid l2 H9) ts js := fun z => z.imp fun t k e => by
          rw [hid_ne (ne_of e e2 (fun z => by cases z))]
          exact e
        have p2h := two p2
        have pdh := two pd
        have pl2 : p ≠ l2 := (well_nlst w9 e2)
        have wh : WellAt (hid l2 H9) p := by
          obtain ⟨dd, mm, hw, r⟩ := w9
          exact ⟨dd, mm, by rw [hid_ne pl2]; exact hw, r⟩
        have smh : Same H (hid l2 H9) := fun b o e => by
          rw [hid_ne (fun z => by rw [z, nlH] at e; cases e)]
          exact sm9 b o e
        clear hh s9 nlp elp plp exm rxm ma sm8 w8 two ed ek pd
        -- what was handed in is changed
        refine ⟨_, rfl, .inl ⟨rfl, _, SqL.of e2⟩, (by show 1 ≤ sizeLine; decide), fun tz ntz => ?_⟩
        have t1 := same_new (o := .tup [V.str "z"]) ntz
        refine ⟨l2, vs, _, rfl, rfl, t1 _ _ e2, Nat.lt_of_lt_of_le (show vs.length < 1000 by omega) (by decide), ?_⟩
        have b1 : Same (hid l2 H9) (upd (upd H9 tz (.tup [V.str "z"])) l2 (.lst (vs ++ [V.ref tz]))) := exb_hid ((ExB.of t1).trans ExB.put)
        generalize hid l2 H9 = B at b1 mh ekh edh p2h pdh wh smh
        generalize upd (upd H9 tz (.tup [V.str "z"])) l2 (.lst (vs ++ [V.ref tz])) = H10 at b1 ⊢
        clear t1 ntz e2 p2 w9 sm9 kl dl pl2 nlH
        -- what was told is changed
        have mt := mh.mono b1
        obtain ⟨dxm, lxm, vxm, exm, rxm⟩ := id mt
        refine ⟨_, rfl, x, dxm, _, rfl, exm, x, _, rfl, mt, fun H11 lt wt s11 nlt elt plt => ?_⟩
        refine ⟨_, rfl, .inl ⟨rfl, _, SqL.of elt⟩, (by show 1 ≤ sizeLine; decide), fun ty nty => ?_⟩
        have t1 := same_new (o := .tup [V.str "y"]) nty
        have lwt := plt.len
        have lf := few_le la
        have lpm := pm.length_eq
        refine ⟨lt, wt, _, rfl, rfl, t1 _ _ elt, Nat.lt_of_lt_of_le (show wt.length < 1000 by omega) (by decide), ?_⟩
        have nB : B lt = none := Same.free b1 nlt
        have b2 : Same B (upd (upd H11 ty (.tup [V.str "y"])) lt (.lst (wt ++ [V.ref ty]))) := ExB.put.same nB ((b1.trans s11).trans t1)
        generalize upd (upd H11 ty (.tup [V.str "y"])) lt (.lst (wt ++ [V.ref ty])) = H12 at b2 ⊢
        clear b1 mt exm rxm s11 nlt elt plt t1 nty nB
        have mt := mh.mono b2
        obtain ⟨dxm, lxm, vxm, exm, rxm⟩ := id mt
        refine ⟨_, rfl, x, dxm, _, rfl, exm, x, _, rfl, mt, fun H13 lp wp s13 nlp elp plp => ⟨_, rfl, ?_⟩⟩
        have b3 := b2.trans s13
        refine ne_rows (SqL.of elp) (SqL.of (b3 _ _ edh)) plp (pdh.mono b3) ow ow ⟨_, rfl, ?_⟩
        rw [decide_eq_true rfl]
        refine iteF ?_
        have ek := b3 _ _ ekh
        have p2 := p2h.mono b3
        have w13 := wh.same b3
        have sm13 := smh.trans b3
        clear b2 b3 mt exm rxm s13 nlp elp plp mh ekh edh p2h pdh wh smh
        -- values that are no paths
        refine ⟨_, rfl, p, rfl, w13, fun H14 v1 d1 x14 w14 hd1 m1 => ⟨_, rfl, p, rfl, w14, fun H15 v2 d2 x15 w15 hd2 m2 => ⟨_, _, rfl, ?_⟩⟩⟩
        have O1 := odds m1
        have O2 := odds m2
        have hd1 := hd1.mono x15.hid
        have x135 := x14.trans x15
        have ek := well_lst w13 x135 ek
        have p2 := well_pth w13 x135 p2
        have sm15 : Same H H15 := ExB.same x135 np0 sm13
        clear x14 x15 x135 w13 w14 sm13
        refine ⟨_, rfl, k1, vs, rfl, .inl (SqL.of ek), fun wl nwl => ?_⟩
        have t1 := same_new (o := .lst vs) nwl
        have wp := well_not w15 nwl
        refine ⟨_, rfl, .inl ⟨rfl, _, SqL.of upd_same⟩, _, rfl, _, rfl, wl, vs, rfl, .inl (SqL.of upd_same), _, _, rfl, rfl, p, _, rfl, w15.same t1, by omega, by omega, fun H16 r x16 w16 r0 r1 => ?_⟩
        have e16 := x16 _ _ wp (upd_same (H := H15) (a := wl) (o := .lst vs))
        refine ⟨_, rfl, wl, vs, r, v1, rfl, rfl, e16, Nat.lt_of_lt_of_le (show vs.length < 1000 by omega) (by decide), r0, by omega, ?_⟩
        obtain ⟨i, rfl⟩ : ∃ i : Nat, r = i := ⟨r.toNat, by omega⟩
        have il : i ≤ vs.length := by omega
        have x17 : ExB p H15 (upd H16 wl (.lst (vs.take i ++ [v1] ++ vs.drop i))) := exb_upd ((ExB.of t1).trans x16) nwl
        have w17 : WellAt (upd H16 wl (.lst (vs.take i ++ [v1] ++ vs.drop i))) p := well_upd w16 wp
        have sm17 : Same H (upd H16 wl (.lst (vs.take i ++ [v1] ++ vs.drop i))) := ExB.same x17 np0 sm15
        have e17 := upd_same (H := H16) (a := wl) (o := .lst (vs.take i ++ [v1] ++ vs.drop i))
        have en : ((i : Int)).toNat = i := Int.toNat_natCast i
        rw [en]
        generalize upd H16 wl (.lst (vs.take i ++ [v1] ++ vs.drop i)) = H17 at x17 w17 sm17 e17 ⊢
        have hd1 := hd1.mono x17.hid
        have hd2 := hd2.mono x17.hid
        have p2 := well_pth w15 x17 p2
        -- the first one that is none is told
        refine ⟨_, rfl, _, rfl, (by show 1 ≤ sizeLine; decide), fun b1 nb1 => ?_⟩
        have t1 := same_new (o := .lst [v2]) nb1
        have ll : (vs.take i ++ [v1] ++ vs.drop i).length = vs.length + 1 := by
          rw [List.length_append, List.length_append, List.length_take, List.length_drop, List.length_singleton]
          omega
        refine ⟨wl, b1, _, _, rfl, rfl, t1 _ _ e17, upd_same, Nat.le_of_lt (small1000 (by rw [ll]; show vs.length + 1 + 1 ≤ 1000; omega)), fun c1 nc1 => ?_⟩
        have t2 := same_new (o := .lst (vs.take i ++ [v1] ++ vs.drop i ++ [v2])) nc1
        have t12 := t1.trans t2
        have h1 := (hd1.mono ((ExB.of t12).hid)).mono hid_same
        have h2 := (hd2.mono ((ExB.of t12).hid)).mono hid_same
        have hr := dxa_rows (p2.mono t12)
        have zl : (zs.map fun k => PyData.tuple (k.map PyData.str)).length = vs.length := by rw [List.length_map, lz]
        have da := dxa_app (dxa_app (dxa_app (dxa_take i hr) (.cons h1 .nil)) (dxa_drop i hr)) (.cons h2 .nil)
        have okr : ∀ e ∈ zs.map fun k => PyData.tuple (k.map PyData.str), okR e ∧ mpD e = true := fun e he => by
          obtain ⟨k, hk, rfl⟩ := List.mem_map.mp he
          exact ⟨okR_row (on2 k hk), mp_row (on2 k hk)⟩
        refine ⟨c1, _, _, i, v1, d1, rfl, SqL.of upd_same, da, fun e he => ?_, ins_at _ _ _ il, ins_at _ _ _ (by omega), O1.no, fun j e hj he => ?_, fun H18 rl s18 nrl erl => ?_⟩
        · rcases List.mem_append.mp he with he | he
          · rcases List.mem_append.mp he with he | he
            · rcases List.mem_append.mp he with he | he
              · exact (okr e (List.mem_of_mem_take he)).1
              · rw [List.mem_singleton.mp he]
                exact O1.ok
            · exact (okr e (List.mem_of_mem_drop he)).1
          · rw [List.mem_singleton.mp he]
            exact O2.ok
        · rw [ins_before _ _ _ (by omega) hj] at he
          exact (okr e (List.mem_of_getElem? he)).2
        have h18 := h1.mono s18
        refine ⟨_, .list [d1], rfl, .lst (.inl erl) (.cons h18 .nil), O1.sh, O1.sz, O1.dp, (fun _ _ => trivial), ?_⟩
        refine ⟨_, rfl, (by show 1 ≤ sizeLine; decide), fun b2 nb2 => ?_⟩
        have t3 := same_new (o := .lst [v1]) nb2
        refine ⟨_, .list [d1], rfl, .lst (.inl upd_same) (.cons (h18.mono t3) .nil), O1.sh, O1.sz, O1.dp, (fun _ _ => trivial), rfl, _, rfl, ?_⟩
        refine iteNS rfl ?_
        have t123 := (t12.trans s18).trans t3
        exact ⟨sm17.trans t123, w17.same t123, _, _, _, _, _, _, _, _, _, _, _, rfl⟩
      · obtain ⟨sm2, _, y_turn, y_paths, y_kept, y_due, y_mask, y_told, y_first, y_second, y_wrong, y_own, y_error, rfl⟩ := hP
        exact ⟨sm2, _, _, _, _, _, _, _, _, _, _, _, _, _, rfl⟩
    · obtain ⟨sm, y_start, y_tape, y_turn, y_paths, y_kept, y_due, y_mask, y_told, y_first, y_second, y_wrong, y_own, y_error, rfl⟩ := hP
      refine ⟨(by show 1 ≤ sizeLine; decide), fun ow now => ?_⟩
      have t0 := same_new (o := .lst [V.str "a"]) now
      have eo := upd_same (H := H') (a := ow) (o := .lst [V.str "a"])
      generalize upd H' ow (.lst [V.str "a"]) = J0 at t0 eo ⊢
      refine ⟨(by show 1 ≤ sizeLine; decide), fun t1 nt1 => ⟨_, rfl, (by show 2 ≤ sizeLine; decide), fun l1 nl1 => fun x dx nx nd ne => ?_⟩⟩
      have s1 := same_new (o := .tup [V.str "a"]) nt1
      have s2 := same_new (o := .lst [V.ref t1, V.ref ow]) nl1
      have ds : DxA (upd (upd J0 t1 (.tup [V.str "a"])) l1 (.lst [V.ref t1, V.ref ow])) [V.ref t1, V.ref ow] [.tuple [.str "a"], .list [.str "a"]] :=
        .cons (.tup (.inl (s2 _ _ upd_same)) (.cons (.str _) .nil)) (.cons (.lst (.inl (s2 _ _ (s1 _ _ eo))) (.cons (.str _) .nil)) .nil)
      have okd : ∀ d ∈ ([.tuple [.str "a"], .list [.str "a"]] : List PyData), okR d := fun d hd => by
        have all : ([.tuple [.str "a"], .list [.str "a"]] : List PyData).all okRb = true := by decide +kernel
        exact okRb_ok (List.all_eq_true.mp all d hd)
      refine bad_go (i := 1) nx nd ne (SqL.of upd_same) ds okd rfl rfl (by decide +kernel) (fun j e hj he => ?_) (fun J1 dd j1 hx => ⟨true, MB.ex, fun _ a' na => ?_, fun z => by cases z⟩)
      · obtain rfl : j = 0 := by omega
        cases he
        decide +kernel
      exact ⟨ow, dd, rfl, rfl, rfl, rfl, hx, j1 _ _ (s2 _ _ (s1 _ _ eo)), fun J2 => q J2⟩
end
end K09
set_option maxHeartbeats 8000000
namespace K09
open PySem PySem.Spec PyProof.Rows L2 Zk Zs Zo Zd Zx K14 KF
section
variable {P : Program} {w : World} {K : PySem.W.Frag} {mg : Str → Option Value} {base : Heap} {f C : Addr} {fd : FuncData}
theorem ok_Mask_paths (T : K14.Txt mg) (M : Mc K mg C) (F : Fun K "paths" "Mask.paths" s_Mask_paths f fd) : FnOk P w K mg base CX0 1 f fd ["self"] (spPaths C) := by
  have S := sc_Mask_paths
  refine F.ok S (fun vs H Q E h => ?_) (fun cdv A out s H vs Q E hr h => ?_)
  · obtain ⟨a, ks, rfl, _⟩ := h
    rfl
  · obtain ⟨a, ks, rfl, ⟨dx, l, us, ea, el, ed, hp, hok, hl⟩, q⟩ := h
    refine ⟨_, (pss_one (ps_ret (pe_callTy call_list_of (by rfl) T.b_list (by decide +kernel) (pa_cons (pe_fld (pv 0) rfl) pa_nil)))), ?_⟩
    exact ⟨_, rfl, a, C, dx, _, _, rfl, ea, M.cl, M.na, rfl, l.1, us, rfl, .inl (SqL.of el), fun l2 nl => q _ l2 us (same_new nl) nl upd_same (hp.mono (same_new nl))⟩
abbrev s_Mask_len : Stmt := inClass (K14.top 16) 2
theorem sc_Mask_len : FnScope ["self"] ["self"] (defScope s_Mask_len) := ⟨rfl, rfl, rfl, by decide +kernel, rfl, by decide +kernel, by decide +kernel⟩
theorem ok_Mask_len (T : K14.Txt mg) (M : Mc K mg C) (F : Fun K "__len__" "Mask.__len__" s_Mask_len f fd) : FnOk P w K mg base CX0 1 f fd ["self"] (spLen C) := by
  have S := sc_Mask_len
  refine F.ok S (fun vs H Q E h => ?_) (fun cdv A out s H vs Q E hr h => ?_)
  · obtain ⟨a, ks, rfl, _⟩ := h
    rfl
  · obtain ⟨a, ks, rfl, ⟨dx, l, us, ea, el, ed, hp, hok, hl⟩, q⟩ := h
    refine ⟨_, (pss_one (ps_ret (pe_callB call_len_seq (by rfl) T.b_len (by decide +kernel) (pa_cons (pe_fld (pv 0) rfl) pa_nil)))), ?_⟩
    refine ⟨_, rfl, a, C, dx, _, _, rfl, ea, M.cl, M.na, rfl, l.1, us, rfl, .inl (SqL.of el), ?_⟩
    rw [hp.len]
    exact q
abbrev tl5 (CM : Addr) : List Value := [.ref CM, .type "ValueError", .type "Exception", .type "BaseException", .type "object"]
structure Xl (K : PySem.W.Frag) (C CM : Addr) : Prop where
  cls : ∃ nm q N bs sn sub ab col dd k0 k1 k2 k3 k5, K.lookup C = some (excClassObj nm q C N bs (tl5 CM) true sn sub ab col dd k0 k1 k2 k3 k5 "ValueError.__new__")
theorem Xl.at_ {C CM : Addr} (x : Xl K C CM) : ∃ cd, PySem.W.clsIn K C = some cd ∧ cd.mro = .ref C :: tl5 CM ∧ cd.hasDict = true := by
  obtain ⟨nm, q, N, bs, sn, sub, ab, col, dd, k0, k1, k2, k3, k5, h⟩ := x.cls
  refine ⟨_, by unfold PySem.W.clsIn; rw [h], rfl, rfl⟩
theorem Xl.mro {C CM : Addr} (x : Xl K C CM) (v : Value) : PySem.W.mroIn K C v = some ((Value.ref C :: tl5 CM).contains v) := by
  obtain ⟨cd, h, e, _⟩ := x.at_
  unfold PySem.W.mroIn
  rw [h]
  show (if cd.mro.isEmpty then none else some (cd.mro.contains v)) = _
  rw [e]
  rfl
theorem Xl.hd {C CM : Addr} (x : Xl K C CM) : PySem.W.hasDictIn K C = true := by
  obtain ⟨cd, h, _, e⟩ := x.at_
  unfold PySem.W.hasDictIn
  rw [h]
  exact e
theorem Xl.has {C CM : Addr} (x : Xl K C CM) {v : Value} (hv : v ∈ (Value.ref C :: tl5 CM)) : PySem.W.mroIn K C v = some true := by
  rw [x.mro, List.contains_iff_mem.mpr hv]
theorem Xl.kit {C CM D DM : Addr} (x : Xl K C CM) (y : Xl K D DM) (t : PySem.W.typeIn K (.ref D) = some (.type "type")) (h : D ≠ CM) : PySem.W.kitOne K (.ref C) (.ref D) = some (decide (C = D)) := by
  unfold PySem.W.kitOne
  by_cases e : C = D
  · subst e
    rw [if_pos (beq_self_eq_true _), decide_eq_true rfl]
  · have n : ¬ (Value.ref C == Value.ref D) = true := fun z => e (Value.ref.inj (beq_iff_eq.mp z))
    rw [if_neg n, decide_eq_false e]
    obtain ⟨cd, hc, _, _⟩ := y.at_
    show (if ((PySem.W.clsIn K D).isSome && PySem.W.typeIn K (.ref D) == some (.type "type")) = true then PySem.W.mroIn K C (.ref D) else none) = _
    have bb : ((PySem.W.clsIn K D).isSome && PySem.W.typeIn K (.ref D) == some (.type "type")) = true := by
      rw [hc, t]
      simp
    rw [if_pos bb, x.mro]
    have m : ¬ (Value.ref C :: tl5 CM).contains (.ref D) = true := fun z => by
      have z := List.contains_iff_mem.mp z
      simp only [tl5, List.mem_cons, List.not_mem_nil, or_false, Value.ref.injEq, reduceCtorEq] at z
      rcases z with z | z
      · exact e z.symm
      · exact h z
    rw [Bool.eq_false_iff.mpr m]
theorem Xl.kitM {C CM : Addr} (x : Xl K C CM) (c : PySem.W.isClsIn K CM = true) (t : PySem.W.typeIn K (.ref CM) = some (.type "type")) : PySem.W.kitOne K (.ref C) (.ref CM) = some true := by
  unfold PySem.W.kitOne
  by_cases e : (Value.ref C == Value.ref CM) = true
  · rw [if_pos e]
  · rw [if_neg e]
    have c' : (PySem.W.clsIn K CM).isSome = true := c
    show (if ((PySem.W.clsIn K CM).isSome && PySem.W.typeIn K (.ref CM) == some (.type "type")) = true then PySem.W.mroIn K C (.ref CM) else none) = _
    have bb : ((PySem.W.clsIn K CM).isSome && PySem.W.typeIn K (.ref CM) == some (.type "type")) = true := by
      rw [c', t]
      simp
    rw [if_pos bb]
    exact x.has (List.mem_cons_of_mem _ List.mem_cons_self)
theorem Xl.kitV {C CM : Addr} (x : Xl K C CM) : PySem.W.kitOne K (.ref C) (.type "ValueError") = some true := by
  unfold PySem.W.kitOne
  have n : ¬ (Value.ref C == Value.type "ValueError") = true := fun z => by
    have z := beq_iff_eq.mp z
    cases z
  rw [if_neg n]
  show (if PySem.W.kitMeta "ValueError" = true then PySem.W.mroIn K C (.type "ValueError") else none) = _
  rw [if_pos (by decide +kernel)]
  exact x.has (List.mem_cons_of_mem _ (List.mem_cons_of_mem _ List.mem_cons_self))
theorem Xl.bas {C CM : Addr} (x : Xl K C CM) : PySem.W.mroIn K C (.type "BaseException") = some true :=
  x.has (List.mem_cons_of_mem _ (List.mem_cons_of_mem _ (List.mem_cons_of_mem _ (List.mem_cons_of_mem _ List.mem_cons_self))))
theorem Xl.obj {C CM : Addr} (x : Xl K C CM) : PySem.W.mroIn K C (.type "object") = some true :=
  x.has (List.mem_cons_of_mem _ (List.mem_cons_of_mem _ (List.mem_cons_of_mem _ (List.mem_cons_of_mem _ (List.mem_cons_of_mem _ List.mem_cons_self)))))
theorem Xl.oex {C CM : Addr} (x : Xl K C CM) (sa : PySem.W.findIn K (.ref C) "__setattr__" = some (some (.builtin "object.__setattr__"))) (t : PySem.W.typeIn K (.ref C) = some (.type "type")) (k : PySem.W.keepIn K (.ref C) = true) : OexC K C := by
  have b := x.bas
  obtain ⟨nm, q, N, bs, sn, sub, ab, col, dd, k0, k1, k2, k3, k5, h⟩ := x.cls
  exact ⟨⟨nm, q, N, bs, _, sn, sub, ab, col, dd, k0, k1, k2, k3, k5, h, by rfl⟩, sa, b, t, k⟩
theorem Xl.exc {C CM : Addr} (x : Xl K C CM) (hg : PySem.W.findIn K (.ref C) "__getattribute__" = some (some (.builtin "BaseException.__getattribute__"))) (hk : PySem.W.findIn K (.ref C) "__getattr__" = some none)
    (ha : PySem.W.findIn K (.ref C) "__class__" = some (some (.builtin "object.__class__"))) (hn : PySem.W.specialIn K (.builtin "object.__class__") "__get__" = some (some (.builtin "getset_descriptor.__get__"))) (ht : PySem.W.takesIn K (.builtin "object.__class__") = some true) : ExcC K C :=
  ⟨hg, hk, x.bas, x.hd, ha, hn, ht, x.obj⟩
abbrev s_iniB : Stmt := inClass (K14.top 3) 0
theorem sc_iniB : FnScope ["self", "value"] ["self", "value"] (defScope s_iniB) := ⟨rfl, rfl, rfl, by decide +kernel, rfl, by decide +kernel, by decide +kernel⟩
theorem er_B {C I : Addr} {fd : FuncData} (O : OexC K C) (E : ExcC K C) (m : mg "BadMask" = some (.ref C)) (no : PySem.W.findIn K (.ref C) "value" = some none) (iC : PySem.W.findIn K (.ref C) "__init__" = some (some (.ref I))) (tI : PySem.W.typeIn K (.ref I) = some (.type "function"))
    (F : Fun K "__init__" "BadMask.__init__" s_iniB I fd) (hb : ∀ (s : Shared) (x u : Value), BindsTo s fd ⟨[x], [("value", u)]⟩ [("self", x), ("value", u)]) : Er P w K mg base "BadMask" C "value" := by
  have S := sc_iniB
  refine ⟨O, E, m, no, I, fd, iC, tI, F.ok S (fun vs H Q E h => ?_) (fun cdv A outer s H vs Q E hr h => ?_), F.binds (ps := ["self", "value"]) fun _ _ _ _ _ _ us hl => match us, hl with | [_, _], _ => rfl, hb⟩
  · obtain ⟨a, v, rfl, _⟩ := h
    rfl
  · obtain ⟨a, v, rfl, ha, q⟩ := h
    refine ⟨_, pss_one (ps_ost (pv 0) (pv 1)), ?_⟩
    exact ⟨_, rfl, _, rfl, a, C, rfl, O, no, .inl ⟨ha, q⟩⟩
end
theorem all_mk {l : PySem.W.OpenLaw} {w : World} {K : PySem.W.Frag} {h : Heap} {mg : Str → Option Value} {fa : Addr} (X : K.In h) (G : h.Ns mainGlobals mg) (hfa : mg "law" = some (.ref fa))
    {f0 f1 f2 f3 f4 f5 f6 f7 f8 f9 f10 f11 f12 f13 f14 f15 f16 f17 : Addr} {od0 an0 od1 an1 od2 an2 od3 an3 od4 an4 od5 an5 od6 an6 od7 an7 od8 an8 od9 an9 od10 an10 od11 an11 od12 an12 od13 an13 od14 an14 od15 an15 od16 an16 od17 an17 : Option Addr} {sl0 sl1 sl2 sl3 sl4 sl5 sl6 sl7 sl8 sl9 sl10 sl11 sl12 sl13 sl14 sl15 sl16 sl17 : Array (Option Value)}
    {oc0 kV0 dc0 pm0 cd0 ct0 oc1 kV1 dc1 pm1 cd1 ct1 oc2 kV2 dc2 pm2 cd2 ct2 oc3 kV3 dc3 pm3 cd3 ct3 oc4 kV4 dc4 pm4 cd4 ct4 oc5 kV5 dc5 pm5 cd5 ct5 oc6 kV6 dc6 pm6 cd6 ct6 oc7 kV7 dc7 pm7 cd7 ct7 oc8 kV8 dc8 pm8 cd8 ct8 oc9 kV9 dc9 pm9 cd9 ct9 oc10 kV10 dc10 pm10 cd10 ct10 oc11 kV11 dc11 pm11 cd11 ct11 oc12 kV12 dc12 pm12 cd12 ct12 oc13 kV13 dc13 pm13 cd13 ct13 oc14 kV14 dc14 pm14 cd14 ct14 oc15 kV15 dc15 pm15 cd15 ct15 oc16 kV16 dc16 pm16 cd16 ct16 oc17 kV17 dc17 pm17 cd17 ct17 : Value}
    {tk0 tk1 : Tok}
    {C TD T0 : Addr} {oTD : Option Addr} {cTD : Value} {nTD nT0 : Nat} {sTD sT0 : Array (Option Value)}
    {g0 : Addr} {mod0 man0 : Option Addr} {msl0 : Array (Option Value)} {moc0 mkV0 mdc0 mpm0 mcd0 mct0 : Value}
    {g1 : Addr} {mod1 man1 : Option Addr} {msl1 : Array (Option Value)} {moc1 mkV1 mdc1 mpm1 mcd1 mct1 : Value}
    {g2 : Addr} {mod2 man2 : Option Addr} {msl2 : Array (Option Value)} {moc2 mkV2 mdc2 mpm2 mcd2 mct2 : Value}
    {g3 : Addr} {mod3 man3 : Option Addr} {msl3 : Array (Option Value)} {moc3 mkV3 mdc3 mpm3 mcd3 mct3 : Value}
    {g4 : Addr} {mod4 man4 : Option Addr} {msl4 : Array (Option Value)} {moc4 mkV4 mdc4 mpm4 mcd4 mct4 : Value}
    {CM CB IB NB : Addr} {nmB qnB : Str} {bsB subB : List Value} {snB : List Str} {abB : Bool} {colB : Option Bool} {ddB iodB ianB : Option Addr} {m0B m1B m2B m3B m5B : Option Value} {iocB ikVB idcB ipmB icdB ictB : Value} {islB : Array (Option Value)}
    {gp pq glen : Addr} {rst : List Value}
    {mod20 man20 : Option Addr} {msl20 : Array (Option Value)} {moc20 mkV20 mdc20 mpm20 mcd20 mct20 : Value}
    {mod21 man21 : Option Addr} {msl21 : Array (Option Value)} {moc21 mkV21 mdc21 mpm21 mcd21 mct21 : Value}
    (a0 : PySem.W.nsIn K mainGlobals "is_name" = some (some (.ref f0)))
    (l0 : K.lookup f0 = some ⟨oc0, od0, .func (PySem.W.fnOf "is_name" "is_name" (defArgs s_is_name) (defBody s_is_name) (defScope s_is_name) .none kV0 dc0 pm0 an0 cd0 ct0), sl0⟩)
    (c0 : PySem.W.codeIn K cd0 "is_name" = true) (k0 : PySem.W.keepIn K (.ref f0) = true)
    (a1 : PySem.W.nsIn K mainGlobals "is_letter_row" = some (some (.ref f1)))
    (l1 : K.lookup f1 = some ⟨oc1, od1, .func (PySem.W.fnOf "is_letter_row" "is_letter_row" (defArgs s_is_letter_row) (defBody s_is_letter_row) (defScope s_is_letter_row) .none kV1 dc1 pm1 an1 cd1 ct1), sl1⟩)
    (c1 : PySem.W.codeIn K cd1 "is_letter_row" = true) (k1 : PySem.W.keepIn K (.ref f1) = true)
    (a2 : PySem.W.nsIn K mainGlobals "is_name_row" = some (some (.ref f2)))
    (l2 : K.lookup f2 = some ⟨oc2, od2, .func (PySem.W.fnOf "is_name_row" "is_name_row" (defArgs s_is_name_row) (defBody s_is_name_row) (defScope s_is_name_row) .none kV2 dc2 pm2 an2 cd2 ct2), sl2⟩)
    (c2 : PySem.W.codeIn K cd2 "is_name_row" = true) (k2 : PySem.W.keepIn K (.ref f2) = true)
    (a3 : PySem.W.nsIn K mainGlobals "is_mask_path" = some (some (.ref f3)))
    (l3 : K.lookup f3 = some ⟨oc3, od3, .func (PySem.W.fnOf "is_mask_path" "is_mask_path" (defArgs s_is_mask_path) (defBody s_is_mask_path) (defScope s_is_mask_path) .none kV3 dc3 pm3 an3 cd3 ct3), sl3⟩)
    (c3 : PySem.W.codeIn K cd3 "is_mask_path" = true) (k3 : PySem.W.keepIn K (.ref f3) = true)
    (a4 : PySem.W.nsIn K mainGlobals "sorted_paths" = some (some (.ref f4)))
    (l4 : K.lookup f4 = some ⟨oc4, od4, .func (PySem.W.fnOf "sorted_paths" "sorted_paths" (defArgs s_sorted_paths) (defBody s_sorted_paths) (defScope s_sorted_paths) .none kV4 dc4 pm4 an4 cd4 ct4), sl4⟩)
    (c4 : PySem.W.codeIn K cd4 "sorted_paths" = true) (k4 : PySem.W.keepIn K (.ref f4) = true)
    (a5 : PySem.W.nsIn K mainGlobals "begins_with_one" = some (some (.ref f5)))
    (l5 : K.lookup f5 = some ⟨oc5, od5, .func (PySem.W.fnOf "begins_with_one" "begins_with_one" (defArgs s_begins_with_one) (defBody s_begins_with_one) (defScope s_begins_with_one) .none kV5 dc5 pm5 an5 cd5 ct5), sl5⟩)
    (c5 : PySem.W.codeIn K cd5 "begins_with_one" = true) (k5 : PySem.W.keepIn K (.ref f5) = true)
    (a6 : PySem.W.nsIn K mainGlobals "least_paths" = some (some (.ref f6)))
    (l6 : K.lookup f6 = some ⟨oc6, od6, .func (PySem.W.fnOf "least_paths" "least_paths" (defArgs s_least_paths) (defBody s_least_paths) (defScope s_least_paths) .none kV6 dc6 pm6 an6 cd6 ct6), sl6⟩)
    (c6 : PySem.W.codeIn K cd6 "least_paths" = true) (k6 : PySem.W.keepIn K (.ref f6) = true)
    (a7 : PySem.W.nsIn K mainGlobals "_law_tape" = some (some (.ref f7)))
    (l7 : K.lookup f7 = some ⟨oc7, od7, .func (PySem.W.fnOf "_law_tape" "_law_tape" (defArgs s_law_tape) (defBody s_law_tape) (defScope s_law_tape) .none kV7 dc7 pm7 an7 cd7 ct7), sl7⟩)
    (c7 : PySem.W.codeIn K cd7 "_law_tape" = true) (k7 : PySem.W.keepIn K (.ref f7) = true)
    (a8 : PySem.W.nsIn K mainGlobals "_law_pick" = some (some (.ref f8)))
    (l8 : K.lookup f8 = some ⟨oc8, od8, .func (PySem.W.fnOf "_law_pick" "_law_pick" (defArgs s_law_pick) (defBody s_law_pick) (defScope s_law_pick) .none kV8 dc8 pm8 an8 cd8 ct8), sl8⟩)
    (c8 : PySem.W.codeIn K cd8 "_law_pick" = true) (k8 : PySem.W.keepIn K (.ref f8) = true)
    (a9 : PySem.W.nsIn K mainGlobals "_law_one_of" = some (some (.ref f9)))
    (l9 : K.lookup f9 = some ⟨oc9, od9, .func (PySem.W.fnOf "_law_one_of" "_law_one_of" (defArgs s_law_one_of) (defBody s_law_one_of) (defScope s_law_one_of) .none kV9 dc9 pm9 an9 cd9 ct9), sl9⟩)
    (c9 : PySem.W.codeIn K cd9 "_law_one_of" = true) (k9 : PySem.W.keepIn K (.ref f9) = true)
    (a10 : PySem.W.nsIn K mainGlobals "_law_path" = some (some (.ref f10)))
    (l10 : K.lookup f10 = some ⟨oc10, od10, .func (PySem.W.fnOf "_law_path" "_law_path" (defArgs s_law_path) (defBody s_law_path) (defScope s_law_path) .none kV10 dc10 pm10 an10 cd10 ct10), sl10⟩)
    (c10 : PySem.W.codeIn K cd10 "_law_path" = true) (k10 : PySem.W.keepIn K (.ref f10) = true)
    (a11 : PySem.W.nsIn K mainGlobals "_law_begins" = some (some (.ref f11)))
    (l11 : K.lookup f11 = some ⟨oc11, od11, .func (PySem.W.fnOf "_law_begins" "_law_begins" (defArgs s_law_begins) (defBody s_law_begins) (defScope s_law_begins) .none kV11 dc11 pm11 an11 cd11 ct11), sl11⟩)
    (c11 : PySem.W.codeIn K cd11 "_law_begins" = true) (k11 : PySem.W.keepIn K (.ref f11) = true)
    (a12 : PySem.W.nsIn K mainGlobals "_law_covers" = some (some (.ref f12)))
    (l12 : K.lookup f12 = some ⟨oc12, od12, .func (PySem.W.fnOf "_law_covers" "_law_covers" (defArgs s_law_covers) (defBody s_law_covers) (defScope s_law_covers) .none kV12 dc12 pm12 an12 cd12 ct12), sl12⟩)
    (c12 : PySem.W.codeIn K cd12 "_law_covers" = true) (k12 : PySem.W.keepIn K (.ref f12) = true)
    (a13 : PySem.W.nsIn K mainGlobals "_law_fewest" = some (some (.ref f13)))
    (l13 : K.lookup f13 = some ⟨oc13, od13, .func (PySem.W.fnOf "_law_fewest" "_law_fewest" (defArgs s_law_fewest) (defBody s_law_fewest) (defScope s_law_fewest) .none kV13 dc13 pm13 an13 cd13 ct13), sl13⟩)
    (c13 : PySem.W.codeIn K cd13 "_law_fewest" = true) (k13 : PySem.W.keepIn K (.ref f13) = true)
    (a14 : PySem.W.nsIn K mainGlobals "_law_drawn" = some (some (.ref f14)))
    (l14 : K.lookup f14 = some ⟨oc14, od14, .func (PySem.W.fnOf "_law_drawn" "_law_drawn" (defArgs s_law_drawn) (defBody s_law_drawn) (defScope s_law_drawn) .none kV14 dc14 pm14 an14 cd14 ct14), sl14⟩)
    (c14 : PySem.W.codeIn K cd14 "_law_drawn" = true) (k14 : PySem.W.keepIn K (.ref f14) = true)
    (a15 : PySem.W.nsIn K mainGlobals "_law_odd" = some (some (.ref f15)))
    (l15 : K.lookup f15 = some ⟨oc15, od15, .func (PySem.W.fnOf "_law_odd" "_law_odd" (defArgs s_law_odd) (defBody s_law_odd) (defScope s_law_odd) .none kV15 dc15 pm15 an15 cd15 ct15), sl15⟩)
    (c15 : PySem.W.codeIn K cd15 "_law_odd" = true) (k15 : PySem.W.keepIn K (.ref f15) = true)
    (a16 : PySem.W.nsIn K mainGlobals "_law_caught" = some (some (.ref f16)))
    (l16 : K.lookup f16 = some ⟨oc16, od16, .func (PySem.W.fnOf "_law_caught" "_law_caught" (defArgs s_law_caught) (defBody s_law_caught) (defScope s_law_caught) .none kV16 dc16 pm16 an16 cd16 ct16), sl16⟩)
    (c16 : PySem.W.codeIn K cd16 "_law_caught" = true) (k16 : PySem.W.keepIn K (.ref f16) = true)
    (a17 : PySem.W.nsIn K mainGlobals "law" = some (some (.ref f17)))
    (l17 : K.lookup f17 = some ⟨oc17, od17, .func (PySem.W.fnOf "law" "law" (defArgs s_law) (defBody s_law) (defScope s_law) .none kV17 dc17 pm17 an17 cd17 ct17), sl17⟩)
    (c17 : PySem.W.codeIn K cd17 "law" = true) (k17 : PySem.W.keepIn K (.ref f17) = true)
    (vc0 : PySem.W.nsIn K mainGlobals "LETTERS" = some (some (.str LET tk0)))
    (vc1 : PySem.W.nsIn K mainGlobals "LONGEST_NAME" = some (some (.int 8 tk1)))
    (z0 : PySem.W.nsIn K mainGlobals "len" = some none)
    (z1 : PySem.W.nsIn K mainGlobals "isinstance" = some none)
    (z2 : PySem.W.nsIn K mainGlobals "str" = some none)
    (z3 : PySem.W.nsIn K mainGlobals "int" = some none)
    (z4 : PySem.W.nsIn K mainGlobals "all" = some none)
    (z5 : PySem.W.nsIn K mainGlobals "any" = some none)
    (z6 : PySem.W.nsIn K mainGlobals "range" = some none)
    (z7 : PySem.W.nsIn K mainGlobals "tuple" = some none)
    (z8 : PySem.W.nsIn K mainGlobals "list" = some none)
    (z9 : PySem.W.nsIn K mainGlobals "sorted" = some none)
    (z10 : PySem.W.nsIn K mainGlobals "max" = some none)
    (z11 : PySem.W.nsIn K mainGlobals "min" = some none)
    (z12 : PySem.W.nsIn K mainGlobals "repr" = some none)
    (z13 : PySem.W.nsIn K mainGlobals "set" = some none)
    (xaC : PySem.W.nsIn K mainGlobals "Mask" = some (some (.ref C)))
    (xpg : PySem.W.plainGet K C Str.empty = true)
    (xhd : PySem.W.hasDictIn K C = true)
    (xpo : PySem.W.plainOver K C = true)
    (xsa : PySem.W.findIn K (.ref C) "__setattr__" = some (some (.builtin "object.__setattr__")))
    (xna : PySem.W.findIn K (.ref C) "_rows" = some none)
    (xnc : PySem.W.findIn K (.ref C) "_covered" = some none)
    (xmk : PySem.W.makesIn K C = true)
    (xkp : PySem.W.keepIn K (.ref C) = true)
    (xsf : PySem.W.selfFirst K C = true)
    (xne : PySem.W.findIn K (.ref C) "__ne__" = some (some (.builtin "object.__ne__")))
    (xob : PySem.W.subIn K (.ref C) (.type "object") = some true)
    (xha : PySem.W.findIn K (.ref C) "__class__" = some (some (.builtin "object.__class__")))
    (xhn : PySem.W.specialIn K (.builtin "object.__class__") "__get__" = some (some (.builtin "getset_descriptor.__get__")))
    (xht : PySem.W.takesIn K (.builtin "object.__class__") = some true)
    (xhm : PySem.W.mroIn K C (.type "object") = some true)
    (ya0 : PySem.W.findIn K (.ref C) "__init__" = some (some (.ref g0)))
    (yf0 : PySem.W.isFn K (.ref g0) = true)
    (yl0 : K.lookup g0 = some ⟨moc0, mod0, .func (PySem.W.fnOf "__init__" "Mask.__init__" (defArgs s_Mask_init) (defBody s_Mask_init) (defScope s_Mask_init) (.ref TD) mkV0 mdc0 mpm0 man0 mcd0 mct0), msl0⟩)
    (yc0 : PySem.W.codeIn K mcd0 "Mask.__init__" = true)
    (yk0 : PySem.W.keepIn K (.ref g0) = true)
    (ya1 : PySem.W.findIn K (.ref C) "__contains__" = some (some (.ref g1)))
    (yf1 : PySem.W.isFn K (.ref g1) = true)
    (yl1 : K.lookup g1 = some ⟨moc1, mod1, .func (PySem.W.fnOf "__contains__" "Mask.__contains__" (defArgs s_Mask_contains) (defBody s_Mask_contains) (defScope s_Mask_contains) .none mkV1 mdc1 mpm1 man1 mcd1 mct1), msl1⟩)
    (yc1 : PySem.W.codeIn K mcd1 "Mask.__contains__" = true)
    (yk1 : PySem.W.keepIn K (.ref g1) = true)
    (ya2 : PySem.W.findIn K (.ref C) "__and__" = some (some (.ref g2)))
    (yf2 : PySem.W.isFn K (.ref g2) = true)
    (yl2 : K.lookup g2 = some ⟨moc2, mod2, .func (PySem.W.fnOf "__and__" "Mask.__and__" (defArgs s_Mask_and) (defBody s_Mask_and) (defScope s_Mask_and) .none mkV2 mdc2 mpm2 man2 mcd2 mct2), msl2⟩)
    (yc2 : PySem.W.codeIn K mcd2 "Mask.__and__" = true)
    (yk2 : PySem.W.keepIn K (.ref g2) = true)
    (ya3 : PySem.W.findIn K (.ref C) "__or__" = some (some (.ref g3)))
    (yf3 : PySem.W.isFn K (.ref g3) = true)
    (yl3 : K.lookup g3 = some ⟨moc3, mod3, .func (PySem.W.fnOf "__or__" "Mask.__or__" (defArgs s_Mask_or) (defBody s_Mask_or) (defScope s_Mask_or) .none mkV3 mdc3 mpm3 man3 mcd3 mct3), msl3⟩)
    (yc3 : PySem.W.codeIn K mcd3 "Mask.__or__" = true)
    (yk3 : PySem.W.keepIn K (.ref g3) = true)
    (ya4 : PySem.W.findIn K (.ref C) "__eq__" = some (some (.ref g4)))
    (yf4 : PySem.W.isFn K (.ref g4) = true)
    (yl4 : K.lookup g4 = some ⟨moc4, mod4, .func (PySem.W.fnOf "__eq__" "Mask.__eq__" (defArgs s_Mask_eq) (defBody s_Mask_eq) (defScope s_Mask_eq) .none mkV4 mdc4 mpm4 man4 mcd4 mct4), msl4⟩)
    (yc4 : PySem.W.codeIn K mcd4 "Mask.__eq__" = true)
    (yk4 : PySem.W.keepIn K (.ref g4) = true)
    (zTD : K.lookup TD = some ⟨cTD, oTD, .seq #[.ref T0] nTD, sTD⟩)
    (zT0 : K.lookup T0 = some ⟨.type "tuple", none, .seq #[] nT0, sT0⟩)
    (eaM : PySem.W.nsIn K mainGlobals "MaskError" = some (some (.ref CM)))
    (eaB : PySem.W.nsIn K mainGlobals "BadMask" = some (some (.ref CB)))
    (elB : K.lookup CB = some (excClassObj nmB qnB CB NB bsB (tl5 CM) true snB subB abB colB ddB m0B m1B m2B m3B m5B "ValueError.__new__"))
    (esB : PySem.W.findIn K (.ref CB) "__setattr__" = some (some (.builtin "object.__setattr__")))
    (egB : PySem.W.findIn K (.ref CB) "__getattribute__" = some (some (.builtin "BaseException.__getattribute__")))
    (ehB : PySem.W.findIn K (.ref CB) "__getattr__" = some none)
    (ecB : PySem.W.findIn K (.ref CB) "__class__" = some (some (.builtin "object.__class__")))
    (enB : PySem.W.findIn K (.ref CB) "value" = some none)
    (ekB : PySem.W.keepIn K (.ref CB) = true)
    (etB : PySem.W.typeIn K (.ref CB) = some (.type "type"))
    (eiB : PySem.W.findIn K (.ref CB) "__init__" = some (some (.ref IB)))
    (ejB : PySem.W.typeIn K (.ref IB) = some (.type "function"))
    (efB : K.lookup IB = some ⟨iocB, iodB, .func (PySem.W.fnOf "__init__" "BadMask.__init__" (defArgs s_iniB) (defBody s_iniB) (defScope s_iniB) .none ikVB idcB ipmB ianB icdB ictB), islB⟩)
    (edB : PySem.W.codeIn K icdB "BadMask.__init__" = true)
    (epB : PySem.W.keepIn K (.ref IB) = true)
    (zp : PySem.W.findIn K (.ref C) "paths" = some (some (.ref pq)))
    (zg : PySem.W.specialIn K (.ref pq) "__get__" = some (some (.builtin "property.__get__")))
    (zt : PySem.W.takesIn K (.ref pq) = some true)
    (zr : PySem.W.recIn K pq "property" = some (.ref gp :: rst))
    (yl20 : K.lookup gp = some ⟨moc20, mod20, .func (PySem.W.fnOf "paths" "Mask.paths" (defArgs s_Mask_paths) (defBody s_Mask_paths) (defScope s_Mask_paths) .none mkV20 mdc20 mpm20 man20 mcd20 mct20), msl20⟩)
    (yc20 : PySem.W.codeIn K mcd20 "Mask.paths" = true)
    (yk20 : PySem.W.keepIn K (.ref gp) = true)
    (ya21 : PySem.W.findIn K (.ref C) "__len__" = some (some (.ref glen)))
    (yf21 : PySem.W.isFn K (.ref glen) = true)
    (yl21 : K.lookup glen = some ⟨moc21, mod21, .func (PySem.W.fnOf "__len__" "Mask.__len__" (defArgs s_Mask_len) (defBody s_Mask_len) (defScope s_Mask_len) .none mkV21 mdc21 mpm21 man21 mcd21 mct21), msl21⟩)
    (yc21 : PySem.W.codeIn K mcd21 "Mask.__len__" = true)
    (yk21 : PySem.W.keepIn K (.ref glen) = true)
    : ∃ fd : FuncData, (∀ (s : Shared) (v : Value), BindsTo s fd ⟨[v], []⟩ [("script", v)]) ∧ ∀ b : Heap, K.In b → b.Ns mainGlobals mg → (∃ o, b.get? sysModules = some o) → GOk l.prog w K mg b CX0 9 fa fd ["script"] (spLaw K) := by
  have e := hfa.symm.trans (PySem.W.mg_of X G a17)
  cases e
  have T : K14.Txt mg := ⟨PySem.W.mg_none_of X G z0, PySem.W.mg_none_of X G z1, PySem.W.mg_none_of X G z2, PySem.W.mg_none_of X G z3, PySem.W.mg_none_of X G z4, PySem.W.mg_none_of X G z5, PySem.W.mg_none_of X G z6, PySem.W.mg_none_of X G z7, PySem.W.mg_none_of X G z8, PySem.W.mg_none_of X G z9, ⟨_, PySem.W.mg_of X G vc0, ⟨_, rfl⟩⟩, ⟨_, PySem.W.mg_of X G vc1, ⟨_, rfl⟩⟩⟩
  have F0 := fun_mk (st := s_is_name) l0 c0 k0
  have p_is_name : Pl K mg "is_name" s_is_name ["value"] f0 _ := ⟨F0, PySem.W.mg_of X G a0, F0.binds (ps := ["value"]) fun _ _ _ _ _ _ us hl => match us, hl with | [_], _ => rfl⟩
  have F1 := fun_mk (st := s_is_letter_row) l1 c1 k1
  have p_is_letter_row : Pl K mg "is_letter_row" s_is_letter_row ["value"] f1 _ := ⟨F1, PySem.W.mg_of X G a1, F1.binds (ps := ["value"]) fun _ _ _ _ _ _ us hl => match us, hl with | [_], _ => rfl⟩
  have F2 := fun_mk (st := s_is_name_row) l2 c2 k2
  have p_is_name_row : Pl K mg "is_name_row" s_is_name_row ["value"] f2 _ := ⟨F2, PySem.W.mg_of X G a2, F2.binds (ps := ["value"]) fun _ _ _ _ _ _ us hl => match us, hl with | [_], _ => rfl⟩
  have F3 := fun_mk (st := s_is_mask_path) l3 c3 k3
  have p_is_mask_path : Pl K mg "is_mask_path" s_is_mask_path ["value"] f3 _ := ⟨F3, PySem.W.mg_of X G a3, F3.binds (ps := ["value"]) fun _ _ _ _ _ _ us hl => match us, hl with | [_], _ => rfl⟩
  have F4 := fun_mk (st := s_sorted_paths) l4 c4 k4
  have p_sorted_paths : Pl K mg "sorted_paths" s_sorted_paths ["paths"] f4 _ := ⟨F4, PySem.W.mg_of X G a4, F4.binds (ps := ["paths"]) fun _ _ _ _ _ _ us hl => match us, hl with | [_], _ => rfl⟩
  have F5 := fun_mk (st := s_begins_with_one) l5 c5 k5
  have p_begins_with_one : Pl K mg "begins_with_one" s_begins_with_one ["path", "paths"] f5 _ := ⟨F5, PySem.W.mg_of X G a5, F5.binds (ps := ["path", "paths"]) fun _ _ _ _ _ _ us hl => match us, hl with | [_, _], _ => rfl⟩
  have F6 := fun_mk (st := s_least_paths) l6 c6 k6
  have p_least_paths : Pl K mg "least_paths" s_least_paths ["paths"] f6 _ := ⟨F6, PySem.W.mg_of X G a6, F6.binds (ps := ["paths"]) fun _ _ _ _ _ _ us hl => match us, hl with | [_], _ => rfl⟩
  have F7 := fun_mk (st := s_law_tape) l7 c7 k7
  have p_law_tape : Pl K mg "_law_tape" s_law_tape ["script", "start"] f7 _ := ⟨F7, PySem.W.mg_of X G a7, F7.binds (ps := ["script", "start"]) fun _ _ _ _ _ _ us hl => match us, hl with | [_, _], _ => rfl⟩
  have F8 := fun_mk (st := s_law_pick) l8 c8 k8
  have p_law_pick : Pl K mg "_law_pick" s_law_pick ["tape", "many"] f8 _ := ⟨F8, PySem.W.mg_of X G a8, F8.binds (ps := ["tape", "many"]) fun _ _ _ _ _ _ us hl => match us, hl with | [_, _], _ => rfl⟩
  have F9 := fun_mk (st := s_law_one_of) l9 c9 k9
  have p_law_one_of : Pl K mg "_law_one_of" s_law_one_of ["tape", "items"] f9 _ := ⟨F9, PySem.W.mg_of X G a9, F9.binds (ps := ["tape", "items"]) fun _ _ _ _ _ _ us hl => match us, hl with | [_, _], _ => rfl⟩
  have F10 := fun_mk (st := s_law_path) l10 c10 k10
  have p_law_path : Pl K mg "_law_path" s_law_path ["tape"] f10 _ := ⟨F10, PySem.W.mg_of X G a10, F10.binds (ps := ["tape"]) fun _ _ _ _ _ _ us hl => match us, hl with | [_], _ => rfl⟩
  have F11 := fun_mk (st := s_law_begins) l11 c11 k11
  have p_law_begins : Pl K mg "_law_begins" s_law_begins ["path", "front"] f11 _ := ⟨F11, PySem.W.mg_of X G a11, F11.binds (ps := ["path", "front"]) fun _ _ _ _ _ _ us hl => match us, hl with | [_, _], _ => rfl⟩
  have F12 := fun_mk (st := s_law_covers) l12 c12 k12
  have p_law_covers : Pl K mg "_law_covers" s_law_covers ["paths", "path"] f12 _ := ⟨F12, PySem.W.mg_of X G a12, F12.binds (ps := ["paths", "path"]) fun _ _ _ _ _ _ us hl => match us, hl with | [_, _], _ => rfl⟩
  have F13 := fun_mk (st := s_law_fewest) l13 c13 k13
  have p_law_fewest : Pl K mg "_law_fewest" s_law_fewest ["paths"] f13 _ := ⟨F13, PySem.W.mg_of X G a13, F13.binds (ps := ["paths"]) fun _ _ _ _ _ _ us hl => match us, hl with | [_], _ => rfl⟩
  have F14 := fun_mk (st := s_law_drawn) l14 c14 k14
  have p_law_drawn : Pl K mg "_law_drawn" s_law_drawn ["tape"] f14 _ := ⟨F14, PySem.W.mg_of X G a14, F14.binds (ps := ["tape"]) fun _ _ _ _ _ _ us hl => match us, hl with | [_], _ => rfl⟩
  have F15 := fun_mk (st := s_law_odd) l15 c15 k15
  have p_law_odd : Pl K mg "_law_odd" s_law_odd ["tape"] f15 _ := ⟨F15, PySem.W.mg_of X G a15, F15.binds (ps := ["tape"]) fun _ _ _ _ _ _ us hl => match us, hl with | [_], _ => rfl⟩
  have F16 := fun_mk (st := s_law_caught) l16 c16 k16
  have p_law_caught : Pl K mg "_law_caught" s_law_caught ["paths"] f16 _ := ⟨F16, PySem.W.mg_of X G a16, F16.binds (ps := ["paths"]) fun _ _ _ _ _ _ us hl => match us, hl with | [_], _ => rfl⟩
  refine ⟨PySem.W.fnOf "law" "law" (defArgs s_law) (defBody s_law) (defScope s_law) .none kV17 dc17 pm17 an17 cd17 ct17, fun s v => .of_eq rfl, fun b _ _ SY => ?_⟩
  have D_row := ok_is_letter_row (P := l.prog) (w := w) (base := b) T p_is_letter_row
  have D_name := ok_is_name T p_is_name D_row
  have D_nrow := ok_is_name_row T p_is_name_row D_name
  have D_mp := ok_is_mask_path T p_is_mask_path D_nrow
  have D_srt := ok_sorted_paths (P := l.prog) (w := w) (base := b) T p_sorted_paths
  have D_beg := ok_begins_with_one (P := l.prog) (w := w) (base := b) T p_begins_with_one
  have D_few := ok_least_paths T p_least_paths D_srt D_beg
  have D_tape := ok_law_tape (P := l.prog) (w := w) (base := b) T p_law_tape
  have D_pick := ok_law_pick (P := l.prog) (w := w) (base := b) T p_law_pick
  have D_one := ok_law_one_of T p_law_one_of D_pick
  have D_path := ok_law_path T p_law_path D_pick D_one
  have D_drawn := ok_law_drawn T p_law_drawn D_pick D_path
  have cl : Cls K C := ⟨xpg, xhd, xpo, xsa⟩
  have me : PySem.W.kitOne K (.ref C) (.ref C) = some true := by
    unfold PySem.W.kitOne
    rw [if_pos (beq_self_eq_true _)]
  have mc : Mc K mg C := ⟨cl, xna, xnc, PySem.W.mg_of X G xaC, xha, xhn, xht, xhm, me⟩
  have mk : Mk K C g0 := ⟨xmk, ya0, yf0, xkp⟩
  have F0 : FunD K "__init__" "Mask.__init__" (defArgs s_Mask_init) (defBody s_Mask_init) (defScope s_Mask_init) [V.ref T0] [] g0 (PySem.W.fnOf "__init__" "Mask.__init__" (defArgs s_Mask_init) (defBody s_Mask_init) (defScope s_Mask_init) (.ref TD) mkV0 mdc0 mpm0 man0 mcd0 mct0) := ⟨⟨_, _, _, _, _, _, _, _, _, _, rfl, yl0, yc0, .inr ⟨List.cons_ne_nil _ _, TD, _, [.ref T0], _, rfl, zTD, rfl, .cons rfl .nil⟩, .inl rfl⟩, yk0⟩
  have O0 := ok_Mask_init (P := l.prog) (w := w) (base := b) T mc F0 D_mp D_few
  have b2 : Binds K (PySem.W.fnOf "__init__" "Mask.__init__" (defArgs s_Mask_init) (defBody s_Mask_init) (defScope s_Mask_init) (.ref TD) mkV0 mdc0 mpm0 man0 mcd0 mct0) ["self", "paths"] [] := by
    obtain ⟨ds, v, bb⟩ := F0.binds1 (ps := ["self", "paths"]) 2 1 (List.cons_ne_nil _ _) rfl (fun _ _ _ _ _ _ _ us its l1 l2 => match us, l1, its, l2 with | [_, _], _, [_], _ => ⟨_, rfl, rfl⟩)
    cases v
    exact bb
  have mx : Mx l.prog w K mg b C := ⟨⟨_, _, mk, O0, b2⟩, ⟨_, _, ⟨ya1, yf1⟩, ok_Mask_contains T mc (fun_mk (st := s_Mask_contains) yl1 yc1 yk1) D_mp D_beg, (fun_mk (st := s_Mask_contains) yl1 yc1 yk1).binds (ps := ["self", "path"]) fun _ _ _ _ _ _ us hl => match us, hl with | [_, _], _ => rfl⟩⟩
  have t0 : ∀ H, SqT K H T0 [] := fun H => .inr ⟨_, #[], _, zT0, rfl, rfl, Nat.zero_le _, .nil⟩
  have mk0 : ∃ f fd ds, Mk K C f ∧ FnOk l.prog w K mg b CX0 5 f fd ["self", "paths"] (spInit K C) ∧ Vals [V.ref T0] ds ∧ Binds K fd ["self", "paths"] ds := by
    obtain ⟨ds, v, bb⟩ := F0.binds1 (ps := ["self", "paths"]) 1 0 (List.cons_ne_nil _ _) rfl (fun _ _ _ _ _ _ _ us its l1 l2 => match us, l1, its, l2 with | [_], _, [_], _ => ⟨_, rfl, rfl⟩)
    exact ⟨_, _, ds, mk, O0, v, bb⟩
  have mkK : ∃ f fd g, Mk K C f ∧ FnOk l.prog w K mg b CX0 5 f fd ["self", "paths"] (spInit K C) ∧ KBn K fd ["self", "paths"] 1 ["paths"] g (fun vs zs => vs ++ zs) := by
    obtain ⟨its, bb⟩ := F0.kbindsD (ps := ["self", "paths"]) 1 ["paths"] (fun vs _ zs => vs ++ zs) (List.cons_ne_nil _ _) (fun r1 _ r3 => r1.append r3) (fun _ _ _ _ _ _ _ us its ws l1 l2 l3 => match us, l1, its, l2, ws, l3 with | [_], _, [_], _, [_], _ => ⟨_, rfl, rfl⟩)
    exact ⟨_, _, _, mk, O0, bb⟩
  have Fa := fun_mk (st := s_Mask_and) yl2 yc2 yk2
  have Fo := fun_mk (st := s_Mask_or) yl3 yc3 yk3
  have Fe := fun_mk (st := s_Mask_eq) yl4 yc4 yk4
  have MY : My l.prog w K mg b C T0 := ⟨mx, PySem.W.mg_of X G xaC, cl, xsf, mk0, t0, mkK,
    ⟨_, _, ⟨ya4, yf4⟩, ok_Mask_eq T mc Fe, Fe.binds (ps := ["self", "other"]) fun _ _ _ _ _ _ us hl => match us, hl with | [_, _], _ => rfl⟩, xne, xob,
    ⟨_, _, ⟨ya2, yf2⟩, ok_Mask_and T mc Fa mx, Fa.binds (ps := ["self", "other"]) fun _ _ _ _ _ _ us hl => match us, hl with | [_, _], _ => rfl⟩,
    ⟨_, _, ⟨ya3, yf3⟩, ok_Mask_or T mc Fo mx, Fo.binds (ps := ["self", "other"]) fun _ _ _ _ _ _ us hl => match us, hl with | [_, _], _ => rfl⟩⟩
  have Fg := fun_mk (st := s_Mask_paths) yl20 yc20 yk20
  have Fl := fun_mk (st := s_Mask_len) yl21 yc21 yk21
  have MZ : Mz l.prog w K mg b C := ⟨⟨_, _, _, ⟨zp, zg, zt, _, zr⟩, ok_Mask_paths T mc Fg, Fg.binds (ps := ["self"]) fun _ _ _ _ _ _ us hl => match us, hl with | [_], _ => rfl⟩, ⟨_, _, ⟨ya21, yf21⟩, ok_Mask_len T mc Fl, Fl.binds (ps := ["self"]) fun _ _ _ _ _ _ us hl => match us, hl with | [_], _ => rfl⟩⟩
  have T3 : Tx mg := ⟨T.b_len, T.b_range, PySem.W.mg_none_of X G z10, PySem.W.mg_none_of X G z11, PySem.W.mg_none_of X G z12, T.b_tuple, T.b_list⟩
  have TF : KF.Txt mg := ⟨T.b_len, PySem.W.mg_none_of X G z13, T.b_sorted⟩
  have D_lb := KF.ok_law_begins (P := l.prog) (w := w) (base := b) TF p_law_begins
  have D_lc := KF.ok_law_covers TF p_law_covers D_lb
  have D_lf := KF.ok_law_fewest TF p_law_fewest D_lc
  have XB : Xl K CB CM := ⟨⟨_, _, _, _, _, _, _, _, _, _, _, _, _, _, elB⟩⟩
  have GB := fun_mk (st := s_iniB) efB edB epB
  have EB : Er l.prog w K mg b "BadMask" CB "value" := er_B (XB.oex esB etB ekB) (XB.exc egB ehB ecB xhn xht) (PySem.W.mg_of X G eaB) enB eiB ejB GB fun _ _ _ => .of_eq rfl
  have bM : Binds K (PySem.W.fnOf "__init__" "Mask.__init__" (defArgs s_Mask_init) (defBody s_Mask_init) (defScope s_Mask_init) (.ref TD) mkV0 mdc0 mpm0 man0 mcd0 mct0) ["self", "paths"] [] := b2
  have MB : Mb l.prog w K mg b C CB := ⟨PySem.W.mg_of X G xaC, EB, ⟨egB, ehB, XB.bas, XB.hd⟩, PySem.W.exm_ref XB.bas XB.hd etB (XB.has List.mem_cons_self), ⟨_, _, mk, ok_Mask_init_bad T mc EB F0 D_mp, bM⟩⟩
  have HL := lst_hot (P := l.prog) (w := w) (base := b) T p_least_paths ⟨_, _, srt_hot T p_sorted_paths, p_sorted_paths.m, p_sorted_paths.F.kp, p_sorted_paths.b⟩
  have HI := init_hot (P := l.prog) (w := w) (base := b) T mc F0 ⟨_, _, HL, p_least_paths.m, p_least_paths.F.kp, p_least_paths.b⟩
  have HG := paths_hot (P := l.prog) (w := w) (base := b) T mc Fg
  have MH : Mh l.prog w K mg b C T0 := by
    obtain ⟨ds, v, bb⟩ := F0.binds1 (ps := ["self", "paths"]) 1 0 (List.cons_ne_nil _ _) rfl (fun _ _ _ _ _ _ _ us its l1 l2 => match us, l1, its, l2 with | [_], _, [_], _ => ⟨_, rfl, rfl⟩)
    exact ⟨⟨_, _, ds, mk, HI, v, bb⟩, ⟨_, _, mk, HI, bM⟩, ⟨_, _, _, ⟨zp, zg, zt, _, zr⟩, HG, Fg.binds (ps := ["self"]) fun _ _ _ _ _ _ us hl => match us, hl with | [_], _ => rfl⟩⟩
  have D_odd := ok_law_odd T p_law_odd D_one
  have D_caught := ok_law_caught MB p_law_caught
  exact ok_law T3 SY (fun_mk (st := s_law) l17 c17 k17) MY MZ MB MH D_tape D_pick D_one D_drawn D_lf D_odd D_caught
end K09
open PySem PySem.W PyProof.Rows
set_option maxRecDepth 100000 in
set_option maxHeartbeats 0 in
theorem PySem.Challenge.cw_maskwrites_k09_masks_made_holds : PySem.Challenge.rw_maskwrites_k09_masks_made.Holds := by
  w_on; o_law; k_head; (case hw => w_witness2)
  k_fill
  refine Zk.walk_go (l := PySem.Challenge.rw_maskwrites_k09_masks_made) (n := 63) (k := 9) (x := "script") (sp := fun w => K09.spLaw _) rfl (by decide) (by rfl) rfl ⟨rfl, by decide, by decide⟩ (fun w h Y => PySem.W.kIn_of Y) ?F (fun _ _ a ns hl hb _ hS => ⟨a, ns, rfl, hS, hl, hb, fun _ => rfl⟩)
  case F =>
    intro w mg fa h KX G hmg
    refine' K09.all_mk KX G hmg ?a0 ?l0 ?c0 ?k0 ?a1 ?l1 ?c1 ?k1 ?a2 ?l2 ?c2 ?k2 ?a3 ?l3 ?c3 ?k3 ?a4 ?l4 ?c4 ?k4 ?a5 ?l5 ?c5 ?k5 ?a6 ?l6 ?c6 ?k6 ?a7 ?l7 ?c7 ?k7 ?a8 ?l8 ?c8 ?k8 ?a9 ?l9 ?c9 ?k9 ?a10 ?l10 ?c10 ?k10 ?a11 ?l11 ?c11 ?k11 ?a12 ?l12 ?c12 ?k12 ?a13 ?l13 ?c13 ?k13 ?a14 ?l14 ?c14 ?k14 ?a15 ?l15 ?c15 ?k15 ?a16 ?l16 ?c16 ?k16 ?a17 ?l17 ?c17 ?k17 ?vc0 ?vc1 ?z0 ?z1 ?z2 ?z3 ?z4 ?z5 ?z6 ?z7 ?z8 ?z9 ?z10 ?z11 ?z12 ?z13 ?xaC ?xpg ?xhd ?xpo ?xsa ?xna ?xnc ?xmk ?xkp ?xsf ?xne ?xob ?xha ?xhn ?xht ?xhm ?ya0 ?yf0 ?yl0 ?yc0 ?yk0 ?ya1 ?yf1 ?yl1 ?yc1 ?yk1 ?ya2 ?yf2 ?yl2 ?yc2 ?yk2 ?ya3 ?yf3 ?yl3 ?yc3 ?yk3 ?ya4 ?yf4 ?yl4 ?yc4 ?yk4 ?zTD ?zT0 ?eaM ?eaB ?elB ?esB ?egB ?ehB ?ecB ?enB ?ekB ?etB ?eiB ?ejB ?efB ?edB ?epB ?zp ?zg ?zt ?zr ?yl20 ?yc20 ?yk20 ?ya21 ?yf21 ?yl21 ?yc21 ?yk21
    (case a0 => k_is)
    (case l0 => k_is)
    (case c0 => k_is)
    (case k0 => k_is)
    (case a1 => k_is)
    (case l1 => k_is)
    (case c1 => k_is)
    (case k1 => k_is)
    (case a2 => k_is)
    (case l2 => k_is)
    (case c2 => k_is)
    (case k2 => k_is)
    (case a3 => k_is)
    (case l3 => k_is)
    (case c3 => k_is)
    (case k3 => k_is)
    (case a4 => k_is)
    (case l4 => k_is)
    (case c4 => k_is)
    (case k4 => k_is)
    (case a5 => k_is)
    (case l5 => k_is)
    (case c5 => k_is)
    (case k5 => k_is)
    (case a6 => k_is)
    (case l6 => k_is)
    (case c6 => k_is)
    (case k6 => k_is)
    (case a7 => k_is)
    (case l7 => k_is)
    (case c7 => k_is)
    (case k7 => k_is)
    (case a8 => k_is)
    (case l8 => k_is)
    (case c8 => k_is)
    (case k8 => k_is)
    (case a9 => k_is)
    (case l9 => k_is)
    (case c9 => k_is)
    (case k9 => k_is)
    (case a10 => k_is)
    (case l10 => k_is)
    (case c10 => k_is)
    (case k10 => k_is)
    (case a11 => k_is)
    (case l11 => k_is)
    (case c11 => k_is)
    (case k11 => k_is)
    (case a12 => k_is)
    (case l12 => k_is)
    (case c12 => k_is)
    (case k12 => k_is)
    (case a13 => k_is)
    (case l13 => k_is)
    (case c13 => k_is)
    (case k13 => k_is)
    (case a14 => k_is)
    (case l14 => k_is)
    (case c14 => k_is)
    (case k14 => k_is)
    (case a15 => k_is)
    (case l15 => k_is)
    (case c15 => k_is)
    (case k15 => k_is)
    (case a16 => k_is)
    (case l16 => k_is)
    (case c16 => k_is)
    (case k16 => k_is)
    (case a17 => k_is)
    (case l17 => k_is)
    (case c17 => k_is)
    (case k17 => k_is)
    (case vc0 => k_is)
    (case vc1 => k_is)
    (case z0 => k_is)
    (case z1 => k_is)
    (case z2 => k_is)
    (case z3 => k_is)
    (case z4 => k_is)
    (case z5 => k_is)
    (case z6 => k_is)
    (case z7 => k_is)
    (case z8 => k_is)
    (case z9 => k_is)
    (case z10 => k_is)
    (case z11 => k_is)
    (case z12 => k_is)
    (case z13 => k_is)
    (case xaC => k_is)
    (case xpg => k_is)
    (case xhd => k_is)
    (case xpo => k_is)
    (case xsa => k_is)
    (case xna => k_is)
    (case xnc => k_is)
    (case xmk => k_is)
    (case xkp => k_is)
    (case xsf => k_is)
    (case xne => k_is)
    (case xob => k_is)
    (case xha => k_is)
    (case xhn => k_is)
    (case xht => k_is)
    (case xhm => k_is)
    (case ya0 => k_is)
    (case yf0 => k_is)
    (case yl0 => k_is)
    (case yc0 => k_is)
    (case yk0 => k_is)
    (case ya1 => k_is)
    (case yf1 => k_is)
    (case yl1 => k_is)
    (case yc1 => k_is)
    (case yk1 => k_is)
    (case ya2 => k_is)
    (case yf2 => k_is)
    (case yl2 => k_is)
    (case yc2 => k_is)
    (case yk2 => k_is)
    (case ya3 => k_is)
    (case yf3 => k_is)
    (case yl3 => k_is)
    (case yc3 => k_is)
    (case yk3 => k_is)
    (case ya4 => k_is)
    (case yf4 => k_is)
    (case yl4 => k_is)
    (case yc4 => k_is)
    (case yk4 => k_is)
    (case zTD => k_is)
    (case zT0 => k_is)
    (case eaM => k_is)
    (case eaB => k_is)
    (case elB => k_is)
    (case esB => k_is)
    (case egB => k_is)
    (case ehB => k_is)
    (case ecB => k_is)
    (case enB => k_is)
    (case ekB => k_is)
    (case etB => k_is)
    (case eiB => k_is)
    (case ejB => k_is)
    (case efB => k_is)
    (case edB => k_is)
    (case epB => k_is)
    (case zp => k_is)
    (case zg => k_is)
    (case zt => k_is)
    (case zr => k_is)
    (case yl20 => k_is)
    (case yc20 => k_is)
    (case yk20 => k_is)
    (case ya21 => k_is)
    (case yf21 => k_is)
    (case yl21 => k_is)
    (case yc21 => k_is)
    (case yk21 => k_is)
