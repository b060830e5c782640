import PyProof.Rows.All
import Wide.All
import OpenK.AllK
import Wide.FinOn
import HandS.ForMost
import HandS.EndBits
import HandS.IsInst
import HandS.Walk
import HandS.Wide
import HandS.TupLe
import PyProof.ReprRoads
import PyProof.Rows.RuleB_pow
import HandS.Exc
import HandS.ExcOwn
import HandS.ExcInit
import HandS.ExcIs
import HandS.ExcField
import KE.KExcPX
import PySem.Challenge.RW_maskwrites_k02_errors_and_names_of_argum
set_option Elab.async false
set_option linter.all false
set_option maxRecDepth 100000
set_option maxHeartbeats 4000000
/-! My own rules: promises of defs that are called where no repr is under way; repr of data; great ints; the well of draws. -/
namespace Zk
open PySem PySem.Spec PyProof.Rows L2

/-! ### promises under «no repr is under way» -/
structure GOk (P : Program) (w : World) (K : PySem.W.Frag) (mg : Str → Option Value) (base : Heap) (CX : CXT) (k : Nat) (f : Addr) (fd : FuncData) (ps : List Str) (sp : Sp) : Prop where
  len : ∀ vs H Q E, sp vs H Q E → vs.length = ps.length
  go : ∀ (A : Around) (out : List Env) (s : Shared) (H : Hp) (ar : Args) (us : List Value) (vs : List V) (Q : VK) (E : XK), A.guards = some [] → Room k A → Env0 P w K mg base A out s H →
    BindsTo s fd ar (ps.zip us) → Vals vs us → sp vs H Q E → codeAny (model P w) A (.call (.ref f) ar) (CR CX out P w H s Q E) s

section
variable {CX : CXT} {P : Program} {w : World} {K : PySem.W.Frag} {mg : Str → Option Value} {base : Heap} {k : Nat} {f : Addr} {fd : FuncData} {ps : List Str} {sp : Sp}
theorem GOk.of (F : FnOk P w K mg base CX k f fd ps sp) : GOk P w K mg base CX k f fd ps sp :=
  ⟨F.len, fun A out s H ar us vs Q E _ => F.run A out s H ar us vs Q E⟩
theorem GOk.mono {j : Nat} (F : GOk P w K mg base CX j f fd ps sp) (h : j ≤ k) : GOk P w K mg base CX k f fd ps sp :=
  ⟨F.len, fun A out s H ar us vs Q E g hr => F.go A out s H ar us vs Q E g (hr.mono h)⟩
theorem GOk.imp {sp2 : Sp} (F : GOk P w K mg base CX k f fd ps sp) (h : ∀ vs H Q E, sp2 vs H Q E → sp vs H Q E) : GOk P w K mg base CX k f fd ps sp2 :=
  ⟨fun vs H Q E q => F.len vs H Q E (h _ _ _ _ q), fun A out s H ar us vs Q E g hr e b v q => F.go A out s H ar us vs Q E g hr e b v (h _ _ _ _ q)⟩
end

/-- the body of a def, walked where no repr is under way -/
theorem gn_of {CX : CXT} {P : Program} {w : World} {K : PySem.W.Frag} {mg : Str → Option Value} {base : Heap} {k : Nat} {f : Addr} {nm qual : Str} {prm : Arguments} {bd : List Stmt} {sc : Scope}
    {dV kV doc pm cdv ct oc : Value} {an od : Option Addr} {osl : Array (Option Value)} {N ps : List Str} {sp : Sp}
    (lk : K.lookup f = some ⟨oc, od, .func (PySem.W.fnOf nm qual prm bd sc dV kV doc pm an cdv ct), osl⟩) (hcd : PySem.W.codeIn K cdv qual = true) (S : FnScope N ps sc)
    (len : ∀ vs H Q E, sp vs H Q E → vs.length = ps.length)
    (hb : ∀ (A : Around) (out : List Env) (s : Shared) (H : Hp) (vs : List V) (Q : VK) (E : XK), A.guards = some [] → Room k (A.deeper (envOfC qual sc s.heap.objs.size f cdv)) → sp vs H Q E →
      ∃ t, PSs (cxOf CX P w K mg base N qual sc f cdv A out s H E) bd t ∧ t { nx := fun _ H' => Q .non H', rt := Q } (start N vs) H) :
    GOk P w K mg base CX (k + 1) f (PySem.W.fnOf nm qual prm bd sc dV kV doc pm an cdv ct) ps sp := by
  constructor
  · exact len
  intro A out s H ar us vs Q E hgd hr e0 bt rv hsp
  have hl := len _ _ _ _ hsp
  have bk : ∀ b o, base.get? b = some o → s.heap.get? b = some o := fun b o e => (e0.bs b o e).1
  have KX : K.In s.heap := e0.mod.kin.keeps bk
  have lim : s.heap.NoLimit := e0.mod.nolimit.keeps bk
  have hk : ∀ y ∈ ps.zip us, sc.names.lookup y.1 = some .local ∨ (sc.names.lookup y.1 = some .cell ∧ ((cellsFrom (s.heap.objs.size + 1) sc.names []).lookup y.1).isSome = true) := by
    rintro ⟨n, v⟩ hy
    rcases S.par n (List.of_mem_zip hy).1 with q | q
    · exact Or.inl q
    · exact Or.inr ⟨q, PySem.W.cellsFrom_some _ _ _ (Or.inl q)⟩
  refine codeAny_call_function hr.depth (KX _ _ lk) rfl S.co S.gen rfl (PySem.W.codeRec_of KX hcd) (bt _ _ _ _ ?_)
  refine wpAny_newFunctionEnv_cells S.kind hk fun env he s1 x => ?_
  subst he
  refine ⟨lim.keeps x.toInCall.keep, codeAny_func ?_⟩
  obtain ⟨t, ht, hq⟩ := hb A out s H vs Q E hgd (hr.deeper _) hsp
  have I := inv_start (CX := CX) (E := E) S hr.hd e0 hl rv x
  refine wpAny_mono (ht.run [] s1 (start N vs) H _ I hq) ?_ (fun e s' hs => hs)
  intro fl s' hs
  cases fl with
  | ret u =>
    obtain ⟨v, σ', H', J, rv', q⟩ := hs
    exact ⟨v, H', J.os, J.bare, J.base, J.hok, rv', q⟩
  | next =>
    obtain ⟨σ', H', J, q⟩ := hs
    exact ⟨V.non, H', J.os, J.bare, J.base, J.hok, rfl, q⟩
  | brk => obtain ⟨_, _, _, q⟩ := hs; exact q.elim
  | cont => obtain ⟨_, _, _, q⟩ := hs; exact q.elim

theorem Fun_okG {P : Program} {w : World} {K : PySem.W.Frag} {mg : Str → Option Value} {base : Heap} {x qual : Str} {st : Stmt} {f : Addr} {fd : FuncData} {N ps : List Str} {k : Nat} {sp : Sp}
    (F : Fun K x qual st f fd) (S : FnScope N ps (defScope st)) (len : ∀ vs H Q E, sp vs H Q E → vs.length = ps.length)
    (hb : ∀ (cdv : Value) (A : Around) (out : List Env) (s : Shared) (H : Hp) (vs : List V) (Q : VK) (E : XK), A.guards = some [] → Room k (A.deeper (envOfC qual (defScope st) s.heap.objs.size f cdv)) → sp vs H Q E →
      ∃ t, PSs (cxOf CX0 P w K mg base N qual (defScope st) f cdv A out s H E).nox (defBody st) t ∧ t { nx := fun _ H' => Q .non H', rt := Q } (start N vs) H) :
    GOk P w K mg base CX0 (k + 1) f fd ps sp := by
  obtain ⟨oc, od, kV, doc, pm, an, cdv, ct, osl, rfl, lk, hcd⟩ := F.ex
  refine gn_of lk hcd S len fun A out s H vs Q E hg hr hsp => ?_
  obtain ⟨t, h, q⟩ := hb cdv A out s H vs Q E hg hr hsp
  exact ⟨t, h.nox, q⟩

section
variable {X : Cx} {CX : CXT} {k : Nat} {f : Addr} {fd : FuncData} {ps : List Str} {sp : Sp} {E : XK} {ds : List Value} {dvs : List V} {x : Str} {p pos : Pos} {e : Expr} {es : List Expr} {t : TA}
theorem run_gn {pins : List (Addr × Obj)} {σ : L2.St} {H : Hp} {s : Shared} {Q : VK} {us : List Value} {vs : List V} (F : GOk X.prog X.w X.K X.mg X.base CX k f fd ps sp) (hg : X.A.guards = some []) (hr : Room k X.A) (hb : Binds X.K fd ps ds)
    (hd : Vals dvs ds) (hx : Passes CX X E) (I : Inv X pins σ H s) (r : Vals vs us) (h : sp (vs ++ dvs) H Q E) : wpAny (model X.prog X.w) X.A (call (.ref f) us) (EP X pins σ Q) X.xe s := by
  have r2 := r.append hd
  have hl : (us ++ ds).length = ps.length := r2.length.symm.trans (F.len _ _ _ _ h)
  have z := F.go X.A X.stack s H ⟨us, []⟩ (us ++ ds) (vs ++ dvs) Q E hg hr I.env0 (hb s us I.kIn hl) r2 h
  refine wpAny_call (codeAny_mono z ?_)
  intro r s' hq
  match r, hq with
  | .error e, hq => exact hx pins σ H s e s' I hq
  | .ok (.ret u), hq => exact I.after hq
  | .ok .next, hq => exact False.elim hq
  | .ok .brk, hq => exact False.elim hq
  | .ok .cont, hq => exact False.elim hq
/-- f(e, ..) -/
theorem pg_call (F : GOk X.prog X.w X.K X.mg X.base CX k f fd ps sp) (hgd : X.A.guards = some []) (hr : Room k X.A) (hg : Gl X x) (hm : X.mg x = some (.ref f)) (hk : PySem.W.keepIn X.K (.ref f) = true)
    (hb : Binds X.K fd ps ds) (hd : Vals dvs ds) (hx : Passes CX X E) (ha : PA X (e :: es) t) (hdb : (x == ("__debug__" : Str)) = false := by decide)
    (he : starEach (e :: es) X.env = (false, eval e X.env) :: starEach es X.env := by rfl) (hpl : (backTo pos (starEach es X.env)).any (·.1) = false := by rfl) :
    PE X (.Call (.Name x p) (e :: es) [] pos) (tCall sp dvs E t) := by
  constructor
  intro pins s σ H Q I h
  refine wpAny_Call_Name_kw (ld_glob I hg hm ?_ hdb)
  refine PySem.W.callWith_K (h₀ := X.base) I.ok.mod.kin hk ?_ he hpl
  refine thn (ha.run pos pins s σ H _ I h) ?_
  rintro us s1 ⟨vs, H1, I1, r, q⟩
  exact ⟨I1.kIn, run_gn F hgd hr hb hd hx I1 r q⟩
theorem pg_call0 (F : GOk X.prog X.w X.K X.mg X.base CX k f fd ps sp) (hgd : X.A.guards = some []) (hr : Room k X.A) (hg : Gl X x) (hm : X.mg x = some (.ref f)) (hk : PySem.W.keepIn X.K (.ref f) = true)
    (hb : Binds X.K fd ps ds) (hd : Vals dvs ds) (hx : Passes CX X E) (hdb : (x == ("__debug__" : Str)) = false := by decide) :
    PE X (.Call (.Name x p) [] [] pos) (tCall sp dvs E tNil) := by
  constructor
  intro pins s σ H Q I h
  exact wpAny_Call_Name_kw (ld_glob I hg hm (PySem.W.callWith_K0 I.kIn hk (run_gn (us := []) F hgd hr hb hd hx I .nil h)) hdb)
end

/-! ### the law's own end -/
theorem law_go {P : Program} {w : World} {K : PySem.W.Frag} {mg mb : Str → Option Value} {CX : CXT} {k : Nat} {fa a : Addr} {fd : FuncData} {x : Str} {sp : Sp} {s1 : Shared} {vs : List Value} {ns : List Int}
    (KX : K.In s1.heap) (hns : s1.heap.Ns mainGlobals mg) (hb : s1.heap.Ns builtinsNs mb) (hbb : ∀ x : Str, x ≠ "__name__" → mb x = bootBuiltins x) (hlim : s1.heap.NoLimit) (hg : s1.gens = #[])
    (ha : s1.heap.get? a = some { cls := .type "list", data := .seq vs.toArray }) (hi : IntsAre vs ns) (hl : ns.length ≤ sizeLine) (hr : Room k callerA)
    (hsy : s1.heap.NoSeer) (F : ∀ b : Heap, K.In b → b.Ns mainGlobals mg → (∃ o, b.get? sysModules = some o) → GOk P w K mg b CX k fa fd [x] sp) (hbind : ∀ (s : Shared) (u : Value), BindsTo s fd ⟨[u], []⟩ [(x, u)])
    (hsp : ∀ H : Hp, Only H → SqL K H a (ns.map V.int) → sp [.ref a] H (fun v _ => v = .bl true) fun _ _ _ => False)
    (hCX : ∀ H e s', CX [] H s1 (fun _ _ _ => False) e s' → False) :
    codeAny (model P w) callerA (.call (.ref fa) ⟨[.ref a], []⟩) (fun r s' => r = .ok (.ret (.bool true)) ∧ OldK s1.heap s'.heap ∧ s'.os = s1.os ∧ AllBare s'.gens) s1 := by
  have rv := vals_ints hi
  have main : ∀ H : Hp, Only H → SqL K H a (ns.map V.int) → HOk P w H s1.heap → (∀ b, H b ≠ none → b = a) → (H a ≠ none → K.lookup a = none) →
      codeAny (model P w) callerA (.call (.ref fa) ⟨[.ref a], []⟩) (fun r s' => r = .ok (.ret (.bool true)) ∧ OldK s1.heap s'.heap ∧ s'.os = s1.os ∧ AllBare s'.gens) s1 := by
    intro H hO hS hok hA hK
    have keptB : ∀ {b : Addr} {o : Obj}, s1.heap.get? b = some o → H b = none → (hidT s1.heap H).get? b = some o := fun e n => hidT_get e n
    have notA : ∀ {b : Addr} {o : Obj} {es : Array DictEntry} {ep : Nat}, s1.heap.get? b = some o → o.data = .dict es ep → H b = none := by
      intro b o es ep e d
      cases q : H b with
      | none => rfl
      | some u =>
        obtain rfl : b = a := hA b (by rw [q]; exact fun z => nomatch z)
        rw [ha] at e
        cases e
        cases (show Data.seq vs.toArray _ = Data.dict es ep from d)
    have nsB : ∀ {b : Addr} {m : Str → Option Value}, s1.heap.Ns b m → (hidT s1.heap H).Ns b m := by
      rintro b m ⟨o, es, ep, e, d, r⟩
      exact ⟨o, es, ep, keptB e (notA e d), d, r⟩
    have hKb : K.In (hidT s1.heap H) := by
      intro b o e
      refine keptB (KX b o e) ?_
      cases q : H b with
      | none => rfl
      | some u =>
        obtain rfl : b = a := hA b (by rw [q]; exact fun z => nomatch z)
        rw [hK (by rw [q]; exact fun z => nomatch z)] at e
        cases e
    have hM : Mod K mg (hidT s1.heap H) := by
      obtain ⟨mc, l1, l2⟩ := hlim
      exact ⟨hKb, nsB hns, ⟨mb, nsB hb, hbb⟩, ⟨mc, nsB l1, l2⟩⟩
    have e0 : Env0 P w K mg (hidT s1.heap H) callerA [] s1 H :=
      ⟨rfl, hM, fun b o e => of_hidT e, Nat.le_of_eq (hidT_size _ _), trivial, fun b z => absurd (show b ∈ ([] : List Addr) from z) (by simp), hok, .of_eq hg⟩
    have sy : ∃ o, (hidT s1.heap H).get? sysModules = some o := by
      obtain ⟨_, ⟨o, es, ep, e, d, _⟩, _⟩ := hsy.mods
      exact ⟨o, keptB e (notA e d)⟩
    have run := (F _ hKb (nsB hns) sy).go callerA [] s1 H ⟨[.ref a], []⟩ [.ref a] [.ref a] (fun v _ => v = .bl true) (fun _ _ _ => False) rfl hr e0 (hbind s1 (.ref a)) (.cons rfl .nil) (hsp H hO hS)
    refine codeAny_mono run ?_
    intro r s' h
    match r, h with
    | .error e, h => exact (hCX H e s' h).elim
    | .ok .next, h => exact False.elim h
    | .ok .brk, h => exact False.elim h
    | .ok .cont, h => exact False.elim h
    | .ok (.ret u), h =>
      obtain ⟨v, H', os, bare, un, hok', r', q⟩ := h
      obtain rfl : v = .bl true := q
      obtain rfl : u = Value.bool true := r'
      refine ⟨rfl, OldK.of_keep fun b o e => ?_, os, bare⟩
      cases q : H b with
      | none => exact un.keep b o e q (fun z => absurd (show b ∈ ([] : List Addr) from z) (by simp)) (by simp)
      | some u =>
        rcases hO b with z | ⟨ob, xs, z⟩
        · rw [q] at z
          cases z
        · obtain ⟨e1, _⟩ := hok b _ z
          obtain ⟨e2, _⟩ := hok' b _ (un.frzs b ob _ z)
          rw [e] at e1
          cases e1
          exact e2
  cases hk : K.lookup a with
  | some o =>
    have e := KX a o hk
    rw [ha] at e
    cases e
    exact main (fun _ => none) (fun _ => .inl rfl) (.inr ⟨_, vs.toArray, _, hk, rfl, rfl, rfl, by rw [List.size_toArray, hi.length]; exact hl, by simpa using rv⟩)
      (fun b u z => by cases (show (none : Option HO) = some u from z)) (fun b z => absurd rfl z) fun z => absurd rfl z
  | none =>
    have ones : ∀ b : Addr, b ≠ a → (if b = a then some (HO.frz { cls := .type "list", data := .seq vs.toArray } (.lst (ns.map V.int))) else none) = none := fun b z => if_neg z
    refine main (fun b => if b = a then some (HO.frz { cls := .type "list", data := .seq vs.toArray } (.lst (ns.map V.int))) else none) ?_ (.inl (.inr ⟨_, if_pos rfl⟩)) ?_ ?_ fun _ => hk
    · intro b
      by_cases z : b = a
      · exact .inr ⟨_, _, if_pos z⟩
      · exact .inl (ones b z)
    · intro b u z
      by_cases y : b = a
      · subst y
        cases (if_pos rfl).symm.trans z
        exact ⟨ha, by rw [List.length_map]; exact hl, vs, _, rv, ha⟩
      · cases (ones b y).symm.trans z
    · intro b z
      by_cases y : b = a
      · exact y
      · exact absurd (ones b y) z
theorem walk_go {l : PySem.W.OpenLaw} {n k : Nat} {q : Program} {loose : List Str} {XP : (Str → Option Value) → Heap → Prop} {YP : World → Heap → Prop} {d : DefRec} {K : Params → PySem.W.Frag} {x : Str} {sp : World → Sp}
    (hn : l.most = some n) (hn2 : n ≤ sizeLine) (him : importsNone q = true) (hdf : d.params.defaults = []) (hr : Room k callerA) (hY : ∀ (w : World) (h : Heap), YP w h → (K w.params).In h)
    (F : ∀ (w : World) (mg : Str → Option Value) (fa : Addr) (h : Heap), (K w.params).In h → h.Ns mainGlobals mg → mg d.name = some (.ref fa) →
      ∃ fd : FuncData, (∀ (s : Shared) (u : Value), BindsTo s fd ⟨[u], []⟩ [(x, u)]) ∧
        ∀ b : Heap, (K w.params).In b → b.Ns mainGlobals mg → (∃ o, b.get? sysModules = some o) → GOk l.prog w (K w.params) mg b CX0 k fa fd [x] (sp w))
    (hsp : ∀ (w : World) (H : Hp) (a : Addr) (ns : List Int), ns.length ≤ n → (∀ z ∈ ns, Builtin.Int.intBits z ≤ 1048576) → Only H → SqL (K w.params) H a (ns.map V.int) → sp w [.ref a] H (fun v _ => v = .bl true) fun _ _ _ => False) :
    PySem.W.WalkO q loose XP YP l.row.toRowW d [] (fun f vs => PySem.call f vs) := by
  refine Att.attach_callB hn hdf ?_
  intro w s0 s1 mg mb fa o pm cd doc a vs ns G Y ho hd hcd hmg hobj hints hlen hbits hg
  have KX := hY w _ Y
  obtain ⟨fd, hb, hF⟩ := F w mg fa _ KX G.T.g hmg
  exact law_go KX G.T.g G.T.b G.T.builtins G.T.nolimit hg hobj hints (Nat.le_trans hlen hn2) hr (G.T.seer him) hF hb (fun H hO hS => hsp w H a ns hlen hbits hO hS) fun _ _ _ z => z
end Zk
set_option maxHeartbeats 4000000
namespace Zk
open PySem PySem.Spec PyProof.Rows L2

/-! ### data at any depth, dicts too -/
def keyD : Key → PyData
  | .inl i => .int i
  | .inr x => .str x
mutual
inductive Dx (H : Hp) : V → PyData → Prop
  | non : Dx H .non .none
  | bl (b : Bool) : Dx H (.bl b) (.bool b)
  | int (i : Int) : Dx H (.int i) (.int i)
  | str (x : Str) : Dx H (.str x) (.str x)
  | lst {a : Addr} {xs : List V} {ds : List PyData} : Rd H a (.lst xs) → DxA H xs ds → Dx H (.ref a) (.list ds)
  | tup {a : Addr} {xs : List V} {ds : List PyData} : Rd H a (.tup xs) → DxA H xs ds → Dx H (.ref a) (.tuple ds)
  | dic {a : Addr} {kvs : List (Key × V)} {ds : List (PyData × PyData)} : Rd H a (.dK kvs) → DxK H kvs ds → Dx H (.ref a) (.dict ds)
inductive DxA (H : Hp) : List V → List PyData → Prop
  | nil : DxA H [] []
  | cons {v : V} {vs : List V} {d : PyData} {ds : List PyData} : Dx H v d → DxA H vs ds → DxA H (v :: vs) (d :: ds)
inductive DxK (H : Hp) : List (Key × V) → List (PyData × PyData) → Prop
  | nil : DxK H [] []
  | cons {k : Key} {v : V} {kvs : List (Key × V)} {d : PyData} {ds : List (PyData × PyData)} : Dx H v d → DxK H kvs ds → DxK H ((k, v) :: kvs) ((keyD k, d) :: ds)
end
theorem rd_same {H H' : Hp} {a : Addr} {o : HO} (e : Same H H') (h : Rd H a o) : Rd H' a o := by
  rcases h with h | ⟨u, h⟩
  · exact .inl (e _ _ h)
  · exact .inr ⟨u, e _ _ h⟩
mutual
theorem Dx.mono {H H' : Hp} (e : Same H H') : ∀ {d : PyData} {v : V}, Dx H v d → Dx H' v d
  | _, _, .non => .non
  | _, _, .bl b => .bl b
  | _, _, .int i => .int i
  | _, _, .str x => .str x
  | _, _, .lst h r => .lst (rd_same e h) (DxA.mono e r)
  | _, _, .tup h r => .tup (rd_same e h) (DxA.mono e r)
  | _, _, .dic h r => .dic (rd_same e h) (DxK.mono e r)
theorem DxA.mono {H H' : Hp} (e : Same H H') : ∀ {ds : List PyData} {vs : List V}, DxA H vs ds → DxA H' vs ds
  | _, _, .nil => .nil
  | _, _, .cons h r => .cons (Dx.mono e h) (DxA.mono e r)
theorem DxK.mono {H H' : Hp} (e : Same H H') : ∀ {ds : List (PyData × PyData)} {vs : List (Key × V)}, DxK H vs ds → DxK H' vs ds
  | _, _, .nil => .nil
  | _, _, .cons h r => .cons (Dx.mono e h) (DxK.mono e r)
end
mutual
def hasL : PyData → Bool
  | .list _ => true
  | .tuple xs => hasLA xs
  | .dict kvs => hasLK kvs
  | _ => false
def hasLA : List PyData → Bool
  | [] => false
  | x :: xs => hasL x || hasLA xs
def hasLK : List (PyData × PyData) → Bool
  | [] => false
  | (_, v) :: r => hasL v || hasLK r
end
section
variable {X : Cx} {pins : List (Addr × Obj)} {σ : L2.St} {H : Hp} {s : Shared}
theorem no_sys (I : Inv X pins σ H s) (hs : ∃ o, X.base.get? sysModules = some o) {a : Addr} {u : HO} (r : Rd H a u) : a ≠ sysModules := by
  rintro rfl
  obtain ⟨o, e⟩ := hs
  have n := (I.bs _ o e).2
  rcases r with r | ⟨_, r⟩
  · rw [n] at r
    cases r
  · rw [n] at r
    cases r
mutual
theorem Dx.reads (I : Inv X pins σ H s) (G L : Prop) (hs : L → G → ∃ o, X.base.get? sysModules = some o) : ∀ (d : PyData) (v : V) (u : Value), Dx H v d → RelV v u → (hasL d = true → L) → ∃ as, Reads s.heap u d as ∧ (G → sysModules ∉ as)
  | .none, _, _, .non, rfl, _ => ⟨_, Reads.none, fun _ z => nomatch z⟩
  | .bool b, _, _, .bl _, rfl, _ => ⟨_, Reads.bool b, fun _ z => nomatch z⟩
  | .int i, _, _, .int _, ⟨t, rfl⟩, _ => ⟨_, Reads.int i t, fun _ z => nomatch z⟩
  | .str x, _, _, .str _, ⟨t, rfl⟩, _ => ⟨_, Reads.str x t, fun _ z => nomatch z⟩
  | .list ds, _, _, .lst (a := a) h r, rfl, hl => by
    obtain ⟨_, its, n, rv, e⟩ := h.ok I.hok
    obtain ⟨as, q, z⟩ := Dx.readsA I G L hs ds _ its r rv (fun _ => hl rfl)
    refine ⟨a :: as, Reads.list e rfl rfl q, fun y m => ?_⟩
    rcases List.mem_cons.mp m with m | m
    · exact no_sys I (hs (hl rfl) y) h m.symm
    · exact z y m
  | .tuple ds, _, _, .tup (a := a) h r, rfl, hl => by
    obtain ⟨_, its, rv, o, e, c, n, hd⟩ := h.ok I.hok
    obtain ⟨as, q, z⟩ := Dx.readsA I G L hs ds _ its r rv (fun y => hl (by simpa [hasL] using y))
    exact ⟨as, Reads.tuple e c hd q, z⟩
  | .dict ds, _, _, .dic (a := a) h r, rfl, hl => by
    obtain ⟨_, ns, vs, rv, o, es, ep, e, x, hd, _, ps, _⟩ := h.ok I.hok
    obtain ⟨as, bs, q1, q2, z⟩ := Dx.readsK I G L hs ds _ es.toList vs r ps rv (fun y => hl (by simpa [hasL] using y))
    refine ⟨a :: as ++ bs, Reads.dict e x.1 hd q1 q2, fun y m => ?_⟩
    rcases List.mem_append.mp m with m | m
    · rcases List.mem_cons.mp m with m | m
      · rw [← m] at ns
        exact absurd ns (by decide)
      · exact (z y).1 m
    · exact (z y).2 m
theorem Dx.readsA (I : Inv X pins σ H s) (G L : Prop) (hs : L → G → ∃ o, X.base.get? sysModules = some o) : ∀ (ds : List PyData) (vs : List V) (us : List Value), DxA H vs ds → Vals vs us → (hasLA ds = true → L) → ∃ as, ReadsAll s.heap us ds as ∧ (G → sysModules ∉ as)
  | [], _, _, .nil, .nil, _ => ⟨_, ReadsAll.nil, fun _ z => nomatch z⟩
  | d :: ds, _, _, .cons h r, .cons rv rs, hl => by
    obtain ⟨as, q1, z1⟩ := Dx.reads I G L hs d _ _ h rv (fun y => hl (by simp [hasLA, y]))
    obtain ⟨bs, q2, z2⟩ := Dx.readsA I G L hs ds _ _ r rs (fun y => hl (by simp [hasLA, y]))
    refine ⟨as ++ bs, ReadsAll.cons q1 q2, fun y m => ?_⟩
    rcases List.mem_append.mp m with m | m
    · exact z1 y m
    · exact z2 y m
theorem Dx.readsK (I : Inv X pins σ H s) (G L : Prop) (hs : L → G → ∃ o, X.base.get? sysModules = some o) : ∀ (ds : List (PyData × PyData)) (kvs : List (Key × V)) (es : List DictEntry) (vs : List (Key × Value)), DxK H kvs ds → Pairs (mixKind X.prog X.w) es vs → KV kvs vs → (hasLK ds = true → L) →
    ∃ as bs, ReadsAll s.heap (es.map (·.key)) (ds.map (·.1)) as ∧ ReadsAll s.heap (es.map (·.val)) (ds.map (·.2)) bs ∧ (G → sysModules ∉ as ∧ sysModules ∉ bs)
  | [], _, _, _, h, p, rv, _ => by
    cases h
    cases rv
    cases p
    exact ⟨_, _, ReadsAll.nil, ReadsAll.nil, fun _ => ⟨(fun z => nomatch z), (fun z => nomatch z)⟩⟩
  | kd :: ds, _, _, _, h, p, rv, hl => by
    cases h with
    | @cons k0 _ _ _ _ h r =>
      cases rv with
      | cons rv rs =>
        rename_i w2 vs2
        obtain ⟨k2, w2⟩ := w2
        obtain ⟨e1, rw2⟩ := rv
        cases p with
        | cons ki ve ps =>
          rename_i e es
          simp only at e1 rw2 ki ve
          subst e1
          have ki' : keyIs k0 e.key = true := ki
          subst ve
          obtain ⟨as, q1, z1⟩ := Dx.reads I G L hs _ _ _ h rw2 (fun y => hl (by simp [hasLK, y]))
          obtain ⟨bs, cs, q2, q3, z2⟩ := Dx.readsK I G L hs ds _ es _ r ps rs (fun y => hl (by simp [hasLK, y]))
          have rk : Reads s.heap e.key (keyD k0) [] := by
            rcases keyIs_shape ki' with ⟨i, t, a1, a2⟩ | ⟨x, t, a1, a2⟩
            · rw [a1, a2]
              exact Reads.int i t
            · rw [a1, a2]
              exact Reads.str x t
          refine ⟨[] ++ bs, as ++ cs, ReadsAll.cons rk q2, ReadsAll.cons q1 q3, fun y => ⟨fun m => ?_, fun m => ?_⟩⟩
          · exact (z2 y).1 (by simpa using m)
          · rcases List.mem_append.mp m with m | m
            · exact z1 y m
            · exact (z2 y).2 m
end

/-- repr(x) of data -/
def rRepr (S : Prop) : List V → Hp → VK → Prop := fun xs H Q => ∃ v d, xs = [v] ∧ Dx H v d ∧ d.showable = true ∧ d.shown.length ≤ sizeLine ∧ d.depth ≤ 40 ∧ (hasL d = true → d.hasDict = true → S) ∧ Q (.str d.shown) H
theorem call_repr {S : Prop} (hS : S → ∃ o, X.base.get? sysModules = some o) (hg : X.A.guards = some []) (hu : X.A.units + 64 < cLine) : CallR X (.builtin "repr") (rRepr S) := by
  intro pins s σ H xs us Q I r h
  obtain ⟨v, d, rfl, hd, sh, sz, dp, hS', q⟩ := h
  obtain ⟨u, rfl, rv⟩ := vals1 r
  have fin : ∀ (x : Str) (tk : Tok) (n : Nat), x = d.shown → EP X pins σ Q (.str x tk) { s with toks := n } := fun x tk n e => by
    subst e
    exact ⟨.str d.shown, H, I.tok _, ⟨_, rfl⟩, q⟩
  have big : ∀ {a : Addr}, RelV (.ref a) u → wpAny (model X.prog X.w) X.A (call (.builtin "repr") [u]) (EP X pins σ Q) X.xe s := fun {a} e => by
    obtain ⟨as, rd, hsm⟩ := Dx.reads I (d.hasDict = true) (hasL d = true) (fun y z => hS (hS' y z)) d v u hd rv id
    cases e
    exact repr_of_reads' rd sh hsm hg (by omega) (fun _ _ z => z) (fun h' t n k => ⟨.str d.shown, H, I.kept k, ⟨_, rfl⟩, q⟩) sz
  cases hd with
  | non =>
    cases rv
    exact PySem.P.repr_of_none (fin _ _ _ rfl)
  | bl b =>
    cases rv
    exact PySem.P.repr_of_bool (fin _ _ _ (by cases b <;> rfl))
  | int i =>
    obtain ⟨t, rfl⟩ := rv
    exact PySem.P.repr_of_int (by unfold PyData.showable at sh; exact of_decide_eq_true sh) (fin _ _ _ rfl)
  | str x =>
    obtain ⟨t, rfl⟩ := rv
    exact PySem.P.repr_of_str (fin _ _ _ rfl) sz
  | lst _ _ => exact big rv
  | tup _ _ => exact big rv
  | dic _ _ => exact big rv
/-- isinstance's class of data -/
def tyD : PyData → String
  | .none => "NoneType"
  | .bool _ => "bool"
  | .int _ => "int"
  | .str _ => "str"
  | .list _ => "list"
  | .tuple _ => "tuple"
  | .dict _ => "dict"
theorem Dx.ty {K : PySem.W.Frag} {v : V} {d : PyData} (h : Dx H v d) : TyX K H v (.type (tyD d)) := by
  cases h with
  | non => exact .base .non
  | bl b => exact .base (.bl b)
  | int i => exact .base (.int i)
  | str x => exact .base (.str x)
  | lst r _ =>
    rcases r with r | ⟨o, r⟩
    · exact .base (.lst r)
    · exact .base (.frz r)
  | tup r _ =>
    rcases r with r | ⟨o, r⟩
    · exact .base (.tup r)
    · exact .fTuple r
  | dic r _ =>
    rcases r with r | ⟨o, r⟩
    · exact .base (.dK r)
    · exact .fDict r
/-- isinstance(x, T) of data, T a built-in class -/
def rIsD : List V → Hp → VK → Prop := fun xs H Q => ∃ T v d b, xs = [v, .ty T] ∧ Dx H v d ∧ kitB (tyD d) T = some b ∧ Q (.bl b) H
theorem call_isD : CallR X (.builtin "isinstance") rIsD := by
  intro pins s σ H xs us Q I r h
  obtain ⟨T, v, d, b, rfl, hd, e, q⟩ := h
  exact call_isi pins s σ H _ us Q I r ⟨v, .ty T, _, _, b, rfl, .ty T, hd.ty, kit_ty e, q⟩
end

/-! ### great ints -/
section
variable {X : Cx}
abbrev bits (i : Int) : Nat := Builtin.Int.intBits i
theorem op_mulG : OpR X (binaryOp .Mult) (rI (fun i j => bits i + bits j ≤ 2 ^ 26) fun i j => .int (i * j)) := opI fun i j _ _ _ _ _ hc q => by
  refine mul_int q ?_
  unfold IntMulOk
  intro z
  rw [Bool.and_eq_true] at z
  have z2 := of_decide_eq_true z.2
  have e : bitsLine = 134217728 := by decide
  rw [e] at z2
  have hc' : bits i + bits j ≤ 67108864 := hc
  have c2 : ((Builtin.Int.intBits i + Builtin.Int.intBits j : Nat) : Int) ≤ 67108864 := Int.ofNat_le.mpr hc'
  omega
theorem op_powG : OpR X (binaryOp .Pow) (rI (fun i j => 0 ≤ j ∧ (bits i : Int) * j ≤ 2 ^ 27) fun i j => .int (i ^ j.toNat)) := opI fun i j _ _ _ _ _ hc q => pow_int hc.1 hc.2 q

/-- 'ab' * n -/
def rMulS : R2 := fun x y H Q => ∃ (z : Str) (n : Nat), x = .str z ∧ y = .int (n : Int) ∧ z.length * n ≤ 100000 ∧ n ≤ 100000 ∧ Q (.str (Txt.mul z n)) H
theorem op_mulS : OpR X (binaryOp .Mult) rMulS := by
  intro pins s σ H x y v u Q I rx ry h
  obtain ⟨z, n, rfl, rfl, hz, hn, q⟩ := h
  obtain ⟨t, rfl⟩ := rx
  obtain ⟨t', rfl⟩ := ry
  refine PySem.SB.mul ⟨?_, fun h1 _ => ?_, fun h1 _ => ?_⟩ fun t2 k => ⟨.str (Txt.mul z n), H, I.tok _, ⟨_, rfl⟩, q⟩
  · rw [decide_eq_false (by omega), decide_eq_false (by omega)]
    rfl
  · have hp : (0 : Int) < (n : Int) := by omega
    have h2 : (z.length : Int) ≤ (2 ^ 63 - 1) / (n : Int) := by
      refine (Int.le_ediv_iff_mul_le hp).mpr ?_
      have : ((z.length * n : Nat) : Int) ≤ 100000 := by omega
      rw [Int.natCast_mul] at this
      omega
    omega
  · have e : (n : Int).toNat = n := Int.toNat_natCast n
    rw [e]
    unfold Builtin.Str.tooLong
    have h3 := (show 100000 ≤ sizeLine by decide)
    exact decide_eq_false (by omega)
/-- the keys by which texts, numbers and flags are sorted -/
inductive KeyV (H : Hp) : V → V → Prop
  | str {a : Addr} (x : Str) : H a = some (.tup [.int x.length, .str x]) → KeyV H (.ref a) (.str x)
  | int (i : Int) : KeyV H (.int i) (.int i)
  | bl (b : Bool) : KeyV H (.bl b) (.bl b)
def befV : V → V → Bool
  | .str x, .str y => decide (x.length < y.length) || (decide (x.length = y.length) && decide (x.cps.toList < y.cps.toList))
  | .int i, .int j => decide (i < j)
  | .bl a, .bl b => decide (b2i a < b2i b)
  | _, _ => false
def sameK : V → V → Prop
  | .str _, .str _ => True
  | .int _, .int _ => True
  | .bl _, .bl _ => True
  | _, _ => False
def rLtK : R2 := fun x y H Q => ∃ a b, KeyV H x a ∧ KeyV H y b ∧ sameK a b ∧ Q (.bl (befV a b)) H
theorem op_ltK (hu : X.A.units < cLine) : OpR X (compareOp .Lt) rLtK := by
  intro pins s σ H x y v u Q I rx ry h
  obtain ⟨a, b, ka, kb, sk, q⟩ := h
  cases ka with
  | int i =>
    cases kb with
    | int j =>
      obtain ⟨t, rfl⟩ := rx
      obtain ⟨t', rfl⟩ := ry
      exact PyProof.Rows.lt_int ⟨.bl _, H, I, rfl, q⟩
    | bl _ => exact sk.elim
    | str _ _ => exact sk.elim
  | bl i =>
    cases kb with
    | bl j =>
      cases rx
      cases ry
      exact PyProof.Rows.lt_bool ⟨.bl _, H, I, rfl, q⟩
    | int _ => exact sk.elim
    | str _ _ => exact sk.elim
  | str z h1 =>
    cases kb with
    | int _ => exact sk.elim
    | bl _ => exact sk.elim
    | str z2 h2 =>
      cases rx
      cases ry
      obtain ⟨its, r1, p1, _⟩ := I.tuple (SqT.of h1)
      obtain ⟨its2, r2, p2, _⟩ := I.tuple (SqT.of h2)
      obtain ⟨u1, u2, rfl, ⟨t1, rfl⟩, ⟨t2, rfl⟩⟩ := vals2 r1
      obtain ⟨u3, u4, rfl, ⟨t3, rfl⟩, ⟨t4, rfl⟩⟩ := vals2 r2
      have R := Ob.RcOp.tuples_lt (A := X.A) (s := s) (e := fun j => if j = 0 then decide ((z.length : Int) = z2.length) else z == z2)
        (r := fun j => if j = 0 then decide ((z.length : Int) < z2.length) else decide (z.cps.toList < z2.cps.toList)) p1 p2 hu (fun j j1 j2 => ?_) (fun j j1 j2 _ => ?_)
      · have e : Ob.lexAt (fun j => if j = 0 then decide ((z.length : Int) = z2.length) else z == z2)
            (fun j => if j = 0 then decide ((z.length : Int) < z2.length) else decide (z.cps.toList < z2.cps.toList)) (decide (2 < 2)) 0 2 = befV (.str z) (.str z2) := by
          show (if decide ((z.length : Int) = z2.length) = true then (if (z == z2) = true then decide (2 < 2) else decide (z.cps.toList < z2.cps.toList)) else decide ((z.length : Int) < z2.length)) = (decide (z.length < z2.length) || (decide (z.length = z2.length) && decide (z.cps.toList < z2.cps.toList)))
          by_cases a1 : z.length = z2.length
          · have a2 : (z.length : Int) = z2.length := by omega
            rw [decide_eq_true a2, if_pos rfl, decide_eq_true a1, decide_eq_false (by omega : ¬ z.length < z2.length), Bool.false_or, Bool.true_and]
            by_cases b1 : z = z2
            · subst b1
              rw [if_pos (beq_self_eq_true _)]
              have zz : ¬ z.cps.toList < z.cps.toList := List.lt_irrefl (α := Nat) z.cps.toList
              rw [decide_eq_false zz]
              rfl
            · rw [if_neg (fun q => b1 (eq_of_beq q))]
          · have a2 : ¬ (z.length : Int) = z2.length := by omega
            rw [decide_eq_false a2, if_neg Bool.false_ne_true, decide_eq_false a1, Bool.false_and, Bool.or_false]
            by_cases b1 : z.length < z2.length
            · rw [decide_eq_true b1, decide_eq_true (by omega)]
            · rw [decide_eq_false b1, decide_eq_false (by omega)]
        have R2 := R X.prog X.w X.xe (EP X pins σ Q)
        exact R2 ⟨.bl _, H, I, rfl, by rw [← e] at q; exact q⟩
      · match j, j1 with
        | 0, _ =>
          have e : (decide ((z.length : Int) = z2.length)) = ((z.length : Int) == z2.length) := by
            by_cases q : (z.length : Int) = z2.length
            · rw [decide_eq_true q, beq_iff_eq.mpr q]
            · rw [decide_eq_false q, beq_eq_false_iff_ne.mpr q]
          show SeqAt.EqAt X.A.in1 s (.int _ t1) (.int _ t3) (decide ((z.length : Int) = z2.length))
          rw [e]
          exact SeqAt.EqAt.int_int _ _ _ _
        | 1, _ => exact SeqAt.EqAt.str_str _ _ _ _
      · match j, j1 with
        | 0, _ => exact Ob.RcOp.lt_int _ _ _ _
        | 1, _ => exact fun _ _ _ _ h => PyProof.Rows.lt_str h
end
/-- a def of the text that keeps its promise, by the name that holds it -/
def Dfn (P : Program) (w : World) (K : PySem.W.Frag) (mg : Str → Option Value) (base : Heap) (k : Nat) (x : Str) (ps : List Str) (sp : Sp) : Prop :=
  ∃ f fd, GOk P w K mg base CX0 k f fd ps sp ∧ mg x = some (.ref f) ∧ PySem.W.keepIn K (.ref f) = true ∧ Binds K fd ps []
theorem Dfn.mono {P : Program} {w : World} {K : PySem.W.Frag} {mg : Str → Option Value} {base : Heap} {j k : Nat} {x : Str} {ps : List Str} {sp : Sp} (D : Dfn P w K mg base j x ps sp) (h : j ≤ k) : Dfn P w K mg base k x ps sp := by
  obtain ⟨f, fd, F, r⟩ := D
  exact ⟨f, fd, F.mono h, r⟩
theorem Dfn.imp {P : Program} {w : World} {K : PySem.W.Frag} {mg : Str → Option Value} {base : Heap} {k : Nat} {x : Str} {ps : List Str} {sp sp2 : Sp} (D : Dfn P w K mg base k x ps sp) (h : ∀ vs H Q E, sp2 vs H Q E → sp vs H Q E) : Dfn P w K mg base k x ps sp2 := by
  obtain ⟨f, fd, F, r⟩ := D
  exact ⟨f, fd, F.imp h, r⟩
section
variable {X : Cx} {k : Nat} {ps : List Str} {sp : Sp} {x : Str} {p pos : Pos} {e : Expr} {es : List Expr} {t : TA}
theorem pd_call (D : Dfn X.prog X.w X.K X.mg X.base k x ps sp) (hgd : X.A.guards = some []) (hr : Room k X.A) (hg : Gl X x) (ha : PA X (e :: es) t) (hdb : (x == ("__debug__" : Str)) = false := by decide)
    (he : starEach (e :: es) X.env = (false, eval e X.env) :: starEach es X.env := by rfl) (hpl : (backTo pos (starEach es X.env)).any (·.1) = false := by rfl) :
    PE X (.Call (.Name x p) (e :: es) [] pos) (tCall sp [] E0 t) := by
  obtain ⟨f, fd, F, hm, hk, hb⟩ := D
  exact pg_call F hgd hr hg hm hk hb .nil pass0 ha hdb he hpl
theorem pd_call0 (D : Dfn X.prog X.w X.K X.mg X.base k x ps sp) (hgd : X.A.guards = some []) (hr : Room k X.A) (hg : Gl X x) (hdb : (x == ("__debug__" : Str)) = false := by decide) :
    PE X (.Call (.Name x p) [] [] pos) (tCall sp [] E0 tNil) := by
  obtain ⟨f, fd, F, hm, hk, hb⟩ := D
  exact pg_call0 F hgd hr hg hm hk hb .nil pass0 hdb
/-- a constant of the module -/
def Gv (mg : Str → Option Value) (x : Str) (v : V) : Prop := ∃ u, mg x = some u ∧ RelV v u
theorem pe_gs {v : V} (h : Gv X.mg x v) (hg : Gl X x) (hd : (x == ("__debug__" : Str)) = false := by decide) : PE X (.Name x pos) (tC v) := by
  obtain ⟨u, hm, r⟩ := h
  exact pe_glob hg hm r hd
end
/-- a def of the text, as the top has left it -/
theorem dfn_mk {P : Program} {w : World} {K : PySem.W.Frag} {mg : Str → Option Value} {base : Heap} {k : Nat} {x : Str} {ps : List Str} {sp : Sp} {f : Addr} {fd : FuncData} (F : GOk P w K mg base CX0 k f fd ps sp) (hm : mg x = some (.ref f))
    (hk : PySem.W.keepIn K (.ref f) = true) (hb : Binds K fd ps []) : Dfn P w K mg base k x ps sp := ⟨f, fd, F, hm, hk, hb⟩
/-- what is known of a def's place -/
structure Pl (K : PySem.W.Frag) (mg : Str → Option Value) (x : Str) (st : Stmt) (ps : List Str) (f : Addr) (fd : FuncData) : Prop where
  F : Fun K x x st f fd
  m : mg x = some (.ref f)
  b : Binds K fd ps []
theorem Pl.d {P : Program} {w : World} {K : PySem.W.Frag} {mg : Str → Option Value} {base : Heap} {k : Nat} {x : Str} {st : Stmt} {ps : List Str} {sp : Sp} {f : Addr} {fd : FuncData} (p : Pl K mg x st ps f fd) (G : GOk P w K mg base CX0 k f fd ps sp) :
    Dfn P w K mg base k x ps sp := ⟨f, fd, G, p.m, p.F.kp, p.b⟩
end Zk
set_option maxHeartbeats 4000000
namespace Zk
open PySem PySem.Spec PyProof.Rows L2

/-! ### more of the heap -/
theorem same_new {H : Hp} {p : Addr} {o : HO} (h : H p = none) : Same H (upd H p o) := by
  intro b u e
  rw [upd_ne (ne_of_none e h)]
  exact e
/-- all but p stands -/
def ExB (p : Addr) (H H' : Hp) : Prop := ∀ b o, b ≠ p → H b = some o → H' b = some o
theorem ExB.refl (p : Addr) (H : Hp) : ExB p H H := fun _ _ _ e => e
theorem ExB.trans {p : Addr} {H H1 H2 : Hp} (a : ExB p H H1) (b : ExB p H1 H2) : ExB p H H2 := fun c o n e => b c o n (a c o n e)
theorem ExB.of {p : Addr} {H H1 : Hp} (a : Same H H1) : ExB p H H1 := fun c o _ e => a c o e
theorem ExB.put {p : Addr} {H : Hp} {o : HO} : ExB p H (upd H p o) := fun c u n e => by
  rw [upd_ne n]
  exact e
theorem ExB.same {p : Addr} {H0 H H' : Hp} (a : ExB p H H') (n : H0 p = none) (s : Same H0 H) : Same H0 H' := fun b o e => a b o (ne_of_none e n) (s b o e)
/-- the heap without p -/
def hid (p : Addr) (H : Hp) : Hp := fun b => if b = p then none else H b
theorem hid_self {p : Addr} {H : Hp} : hid p H p = none := by
  unfold hid
  rw [if_pos rfl]
theorem hid_ne {p b : Addr} {H : Hp} (h : b ≠ p) : hid p H b = H b := by
  unfold hid
  rw [if_neg h]
theorem hid_same {p : Addr} {H : Hp} : Same (hid p H) H := fun b o e => by
  by_cases z : b = p
  · rw [z, hid_self] at e
    cases e
  · rw [hid_ne z] at e
    exact e
theorem ExB.hid {p : Addr} {H H' : Hp} (a : ExB p H H') : Same (hid p H) (hid p H') := fun b o e => by
  by_cases z : b = p
  · rw [z, hid_self] at e
    cases e
  · rw [hid_ne z] at e ⊢
    exact a b o z e
theorem same_hid {p : Addr} {H0 H : Hp} (s : Same H0 H) (n : H0 p = none) : Same H0 (hid p H) := fun b o e => by
  rw [hid_ne (ne_of_none e n)]
  exact s b o e
theorem Same.free' {H H' : Hp} (e : Same H H') {l : Addr} (h : H' l = none) : H l = none := Same.free e h

theorem yes_go {σ : L2.St} {H : Hp} {A B : Hp → Prop} (h : A H) : tYes σ H (fun b H3 => if b = true then A H3 else B H3) := by
  show if true = true then A H else B H
  exact iteT h
theorem no_go {H : Hp} {A B : Hp → Prop} {b : Bool} (hb : b = false) (h : B H) : (fun (b : Bool) H3 => if b = true then A H3 else B H3) b H := by
  subst hb
  exact iteF h
/-! ### the well of draws -/
def wellO (d m : Int) : HO := .dK [((Sum.inr "digits" : Key), V.int d), ((Sum.inr "mixed" : Key), V.int m)]
def WellAt (H : Hp) (p : Addr) : Prop := ∃ d m : Int, H p = some (wellO d m) ∧ 0 ≤ d ∧ bits d ≤ 2000000 ∧ 0 ≤ m ∧ m < 2 ^ 32
theorem WellAt.same {H H' : Hp} {p : Addr} (w : WellAt H p) (s : Same H H') : WellAt H' p := by
  obtain ⟨d, m, e, r⟩ := w
  exact ⟨d, m, s _ _ e, r⟩
theorem WellAt.ne {H : Hp} {p a : Addr} {o : HO} (w : WellAt H p) (h : H a = some o) (d : ∀ kvs, o ≠ .dK kvs) : a ≠ p := by
  obtain ⟨_, _, e, _⟩ := w
  exact ne_of h e (d _)
theorem seq_exb {K : PySem.W.Frag} {p a : Addr} {H H' : Hp} {xs : List V} (w : WellAt H p) (h : SqL K H a xs) (e : ExB p H H') : SqL K H' a xs := by
  rcases h with (h | ⟨o, h⟩) | h
  · exact .inl (.inl (e _ _ (w.ne h (fun _ z => by cases z)) h))
  · exact .inl (.inr ⟨o, e _ _ (w.ne h (fun _ z => by cases z)) h⟩)
  · exact .inr h
theorem bits_small {i : Int} {n : Nat} (h : i.natAbs < 2 ^ n) : bits i ≤ n := by
  unfold bits Builtin.Int.intBits
  split
  · exact Nat.zero_le _
  · rename_i hz
    have h0 : i.natAbs ≠ 0 := fun z => by
      have : i = 0 := by omega
      simp_all
    have := (Nat.log2_lt h0).mpr h
    omega
theorem bits_pow {i : Int} : i.natAbs < 2 ^ bits i := by
  unfold bits Builtin.Int.intBits
  split
  · rename_i hz
    have : i = 0 := by simpa using hz
    subst this
    decide
  · exact Nat.lt_log2_self
theorem bits_mul (i j : Int) : bits (i * j) ≤ bits i + bits j := by
  refine bits_small ?_
  rw [Int.natAbs_mul, Nat.pow_add]
  exact Nat.mul_lt_mul'' bits_pow bits_pow
theorem bits_add {i j : Int} {n : Nat} (hi : bits i ≤ n) (hj : bits j ≤ n) : bits (i + j) ≤ n + 1 := by
  refine bits_small ?_
  have h1 : i.natAbs < 2 ^ n := Nat.lt_of_lt_of_le bits_pow (Nat.pow_le_pow_right (by decide) hi)
  have h2 : j.natAbs < 2 ^ n := Nat.lt_of_lt_of_le bits_pow (Nat.pow_le_pow_right (by decide) hj)
  rw [Nat.pow_succ]
  omega
theorem bits_le {i j : Int} (h : i.natAbs ≤ j.natAbs) : bits i ≤ bits j := bits_small (Nat.lt_of_le_of_lt h bits_pow)
/-- what a draw leaves -/
def spDraw : Sp := fun vs H Q _ => ∃ (p : Addr) (b : Int), vs = [.ref p, .int b] ∧ WellAt H p ∧ 0 < b ∧ b < 1000000000 ∧ ∀ H' r, ExB p H H' → WellAt H' p → 0 ≤ r → r < b → Q (.int r) H'
def spChoose (K : PySem.W.Frag) : Sp := fun vs H Q _ => ∃ (p t : Addr) (xs : List V), vs = [.ref p, .ref t] ∧ WellAt H p ∧ SqL K H t xs ∧ xs ≠ [] ∧ xs.length ≤ 1000000 ∧ ∀ H' v, ExB p H H' → WellAt H' p → v ∈ xs → Q v H'
def spWell (K : PySem.W.Frag) : Sp := fun vs H Q _ => ∃ (a : Addr) (ns : List Int) (j : Int), vs = [.ref a, .int j] ∧ SqL K H a (ns.map V.int) ∧ ns.length ≤ 63 ∧ (∀ z ∈ ns, bits z ≤ 1048576) ∧ 0 ≤ j ∧ j ≤ 1000 ∧
  ∀ H' p, Same H H' → H p = none → WellAt H' p → Q (.ref p) H'
abbrev kD : Key := Sum.inr "digits"
abbrev kM : Key := Sum.inr "mixed"
theorem sd_ne : ¬ Str.ofString "digits" = Str.ofString "mixed" := by decide +kernel
theorem sm_ne : ¬ Str.ofString "mixed" = Str.ofString "digits" := by decide +kernel
theorem kd_ne : ¬ kM = kD := by decide +kernel
theorem kd_ne' : ¬ kD = kM := by decide +kernel
theorem well_putD (d m e : Int) : putK [(kD, V.int d), (kM, V.int m)] kD (V.int e) = [(kD, V.int e), (kM, V.int m)] := by
  simp [putK, sm_ne]
theorem well_putM (d m e : Int) : putK [(kD, V.int d), (kM, V.int m)] kM (V.int e) = [(kD, V.int d), (kM, V.int e)] := by
  simp [putK, sd_ne]
theorem well_merge (d m : Int) : mergeK [] [(kD, V.int d), (kM, V.int m)] = [(kD, V.int d), (kM, V.int m)] := by
  simp [mergeK, putK, sd_ne]
theorem wellD {H : Hp} {p : Addr} {d m : Int} (e : H p = some (wellO d m)) : DGet H p (.str "digits") (some (.int d)) := by
  have z := DGet.k (k := kD) e
  have y : valV [(kD, V.int d), (kM, V.int m)] kD = some (.int d) := valV_pos rfl
  rw [y] at z
  exact z
theorem wellM {H : Hp} {p : Addr} {d m : Int} (e : H p = some (wellO d m)) : DGet H p (.str "mixed") (some (.int m)) := by
  have z := DGet.k (k := kM) e
  have y : valV [(kD, V.int d), (kM, V.int m)] kM = some (.int m) := (valV_neg kd_ne').trans (valV_pos rfl)
  rw [y] at z
  exact z
theorem wellPD {H : Hp} {p : Addr} {d m e : Int} (h : H p = some (wellO d m)) : DPut H p (.str "digits") (.int e) (upd H p (wellO e m)) := by
  have z := DPut.k (k := kD) (v := .int e) h (show 2 < sizeLine by decide)
  rw [well_putD] at z
  exact z
theorem wellPM {H : Hp} {p : Addr} {d m e : Int} (h : H p = some (wellO d m)) : DPut H p (.str "mixed") (.int e) (upd H p (wellO d e)) := by
  have z := DPut.k (k := kM) (v := .int e) h (show 2 < sizeLine by decide)
  rw [well_putM] at z
  exact z
theorem bits_nn {i : Int} {n : Nat} (h0 : 0 ≤ i) (h : i < 2 ^ n) : bits i ≤ n := by
  refine bits_small ?_
  have e : ((2 : Int) ^ n) = ((2 ^ n : Nat) : Int) := by
    rw [Int.natCast_pow]
    rfl
  rw [e] at h
  omega
end Zk
set_option maxHeartbeats 4000000
/-! My own: an exception of the text's own made by a keyword. -/
namespace Zx
open PySem PySem.W PySem.HandSPX
open Builtin Builtin.ObjectAttr
section
variable {M : Model} {A : Around} {E : Value → Shared → Prop} {h : Heap} {g : Array GenState} {d : Drawn} {t : Nat} {os : OsState}
variable {nm q : Str} {C N : Addr} {bs bm bmB : List Value} {hdct : Bool} {sn : List Str} {sub : List Value} {ab : Bool} {col : Option Bool} {dd : Option Addr} {k0 k1 k2 k3 k5 : Option Value} {B newId initId : String}
theorem chk_new_kw (F : ExcBaseFacts B newId initId bmB) (hT : ∀ X : String, bm.contains (.type X) = bmB.contains (.type X)) {us : List Value} {kw : List (Str × Value)} {Q : Unit → Shared → Prop}
    (cl : h.get? C = some (excClassObj nm q C N bs bm hdct sn sub ab col dd k0 k1 k2 k3 k5 newId)) (fin : Q () ⟨h, g, d, t, os⟩) : wpAny M A (checkBuiltinCall newId ⟨.ref C :: us, kw⟩) Q E ⟨h, g, d, t, os⟩ := by
  have inB : (Value.ref C :: bm).contains (.type B) = true := by
    rw [List.contains_cons, hT, F.hasB, Bool.or_true]
  have star := F.noStar
  simp only [checkBuiltinCall, F.newKind, F.newSplit, F.newRow]
  repeat (first
    | refine wpAny_loadPart_at cl ?_
    | (refine wpAny_isSubtype_exc cl ?_; rw [inB])
    | refine wpAny_staticBase_exc cl ?_
    | refine wpAny_madeBy_exc cl ?_
    | simp only [bne_self_eq_false, Bool.false_eq_true, if_false]
    | wp_step)
  exact fin
end
section
variable {prog : Program} {w : World} {A : Around} {E : Value → Shared → Prop} {R : Result → Shared → Prop} {h : Heap} {g : Array GenState} {d : Drawn} {t : Nat} {os : OsState}
variable {nm q : Str} {C N : Addr} {bs bm bmB : List Value} {hdct : Bool} {sn : List Str} {sub : List Value} {ab : Bool} {col : Option Bool} {dd : Option Addr} {k0 k1 k2 k3 k5 : Option Value} {B newId initId : String}
theorem new_kw (F : ExcBaseFacts B newId initId bmB) (hT : ∀ X : String, bm.contains (.type X) = bmB.contains (.type X)) {kw : List (Str × Value)}
    (cl : h.get? C = some (excClassObj nm q C N bs bm hdct sn sub ab col dd k0 k1 k2 k3 k5 newId))
    (fin : R (.ok (.ret (.ref (h.objs.size + 1)))) ⟨(h.push { cls := .type "tuple", data := .seq #[] }).push
      { cls := .ref C, data := .fields #[.ref h.objs.size, .none, .none, .none, .bool false, .none] }, g, d, t, os⟩) :
    codeAny (model prog w) A (.builtin newId ⟨[.ref C], kw⟩) R ⟨h, g, d, t, os⟩ := by
  have ends := F.ends
  have inB : (Value.ref C :: bm).contains (.type B) = true := by
    rw [List.contains_cons, hT, F.hasB, Bool.or_true]
  have notA : (Value.ref C :: bm).contains (.type "AttributeError") = false := by
    rw [List.contains_cons, hT, F.noAttr]
    rfl
  have notN : (Value.ref C :: bm).contains (.type "NameError") = false := by
    rw [List.contains_cons, hT, F.noName]
    rfl
  refine codeAny_builtinAt F.entry ?_
  unfold Builtin.«BaseException.__new__»
  refine wpAt_bind ?_
  show wpAt _ _ _ (stack >>= _) _ _ _
  refine wpAt_bind (wpAt_stack fun p below => wpAt_of_wpAny ?_)
  wp_walk
  refine wpAt_of_wpAny ?_
  rw [F.owner]
  repeat (first
    | with_reducible refine wpAny_madeHere_exc F.canon cl ?_
    | with_reducible refine wpAny_loadPart_at cl ?_
    | (with_reducible refine wpAny_isSubtype_exc cl ?_; first | rw [inB] | rw [notA] | rw [notN])
    | wp_step)
  show R _ _
  rw [Heap.size_push]
  exact fin
theorem tcall_kw (F : ExcBaseFacts B newId initId bmB) (hT : ∀ X : String, bm.contains (.type X) = bmB.contains (.type X)) {kw : List (Str × Value)} {fI : Addr} {Q : Fin → Shared → Prop}
    (cl : h.get? C = some (excClassObj nm q C N bs bm hdct sn sub ab col dd k0 k1 k2 k3 k5 newId))
    (li : W.Looks (model prog w) h (typeLookup (.ref C) "__init__") (some (.ref fI))) (lb : ∀ self, W.Looks (model prog w) h (bindSpecial (.ref fI) self) (.ref fI, [self]))
    (fin : codeAny (model prog w) A (.call (.ref fI) ⟨[.ref (h.objs.size + 1)], kw⟩)
      (fun r s' => match r with | .ok (.ret v) => v = .none ∧ Q (.done (.ret (.ref (h.objs.size + 1)))) s' | .ok _ => False | .error e => E e s')
      ⟨(h.push (W.kdv_tup [])).push (excO C h.objs.size), g, d, t, os⟩) :
    wpAny (model prog w) A (Builtin.«type.__call__» ⟨[.ref C], kw⟩) Q E ⟨h, g, d, t, os⟩ := by
  repeat (first
    | with_reducible refine wpAny_loadPart_at cl ?_
    | with_reducible refine wpAny_madeBy_exc cl ?_
    | wp_step)
  refine codeAny_call_builtin_code (Code.quiet_builtin _ F.quiet) (chk_new_kw F hT cl ?_)
  refine new_kw F hT cl ?_
  show wpAny _ _ _ _ _ _
  have k : ∀ b o, h.get? b = some o → ((h.push (W.kdv_tup [])).push (excO C h.objs.size)).get? b = some o := by
    intro b o e
    exact Heap.get?_push_of_some _ (Heap.get?_push_of_some _ e)
  have cl2 := k _ _ cl
  have new : ((h.push (W.kdv_tup [])).push (excO C h.objs.size)).get? (h.objs.size + 1) = some (excO C h.objs.size) := by heap_get
  have inC : (Value.ref C :: bm).contains (.ref C) = true := by simp
  have i1 := li.keeps k
  have b1 := (lb (.ref (h.objs.size + 1))).keeps k
  unfold isInstance
  repeat (first
    | with_reducible refine wpAny_loadPart_at new ?_
    | (with_reducible refine wpAny_isSubtype_exc cl2 ?_; rw [inC])
    | wp_step)
  show wpAny _ _ (typeLookup (.ref C) _) _ _ _
  refine i1.at (wpAny_holding (wpAny_bind (b1.at ?_)))
  refine wpAny_bind (wpAny_call (codeAny_mono fin fun r s' z => ?_))
  rcases r with e | (v | _ | _ | _) <;> first | exact z | exact z.elim | skip
  obtain ⟨rfl, z⟩ := z
  first
    | exact wpAny_pure (wpAny_pure z)
    | (wp_walk; exact z)
theorem call_kw (F : ExcBaseFacts B newId initId bmB) (hT : ∀ X : String, bm.contains (.type X) = bmB.contains (.type X)) {kw : List (Str × Value)} {fI : Addr}
    (cl : h.get? C = some (excClassObj nm q C N bs bm hdct sn sub ab col dd k0 k1 k2 k3 k5 newId))
    (li : W.Looks (model prog w) h (typeLookup (.ref C) "__init__") (some (.ref fI))) (lb : ∀ self, W.Looks (model prog w) h (bindSpecial (.ref fI) self) (.ref fI, [self]))
    (fin : codeAny (model prog w) (A.under (.builtin "type.__call__" ⟨[.ref C], kw⟩)) (.call (.ref fI) ⟨[.ref (h.objs.size + 1)], kw⟩) (W.InitBack (h.objs.size + 1) R)
      ⟨(h.push (W.kdv_tup [])).push (excO C h.objs.size), g, d, t, os⟩) :
    codeAny (model prog w) A (.call (.ref C) ⟨[], kw⟩) R ⟨h, g, d, t, os⟩ := by
  have f1 := tc_lookup
  have f2 := tc_bind (.ref C)
  have isT : (⟨h, g, d, t, os⟩ : Shared).TypeIs (.ref C) "type" := ⟨_, cl, rfl⟩
  refine codeAny_of_tree ?_
  show wpAny _ _ (callAny (.ref C) _) _ _ _
  repeat (any_goals (first
    | assumption
    | with_reducible refine wpAny_loadPart_at cl ?_
    | wp_step))
  refine ⟨rfl, ?_⟩
  refine codeAny_call_builtin_at (Code.quiet_builtin _ (by decide +kernel)) entry_typeCall ?_
  refine wpAny_check_type_call_sub cl (tcall_kw F hT cl li lb ?_)
  refine codeAny_mono fin fun r s' z => ?_
  rcases r with e | (v | _ | _ | _) <;> exact z
end
end Zx
set_option maxHeartbeats 4000000
namespace Zx
open PySem PySem.Spec PyProof.Rows L2 Zk
/-! ### exceptions of the text's own, held as values -/
/-- self.f = f -/
def spIni (C : Addr) (f : Str) : Sp := fun vs H Q _ => ∃ a v, vs = [.ref a, v] ∧ H a = some (exo a C none) ∧ ∀ d, H d = none → d ≠ a → Q .non (upd (upd H d (exd d [(f, v)])) a (exo a C (some d)))
/-- what is known of an error's class: its name, the attribute that it keeps -/
structure Er (P : Program) (w : World) (K : PySem.W.Frag) (mg : Str → Option Value) (base : Heap) (x : Str) (C : Addr) (f : Str) : Prop where
  oex : OexC K C
  ic : ExcC K C
  m : mg x = some (.ref C)
  no : PySem.W.findIn K (.ref C) f = some none
  ini : ∃ fI fd, PySem.W.findIn K (.ref C) "__init__" = some (some (.ref fI)) ∧ PySem.W.typeIn K (.ref fI) = some (.type "function") ∧ FnOk P w K mg base CX0 1 fI fd ["self", f] (spIni C f) ∧ Binds K fd ["self", f] [] ∧
    ∀ (s : Shared) (x u : Value), BindsTo s fd ⟨[x], [(f, u)]⟩ [("self", x), (f, u)]
/-- an error that keeps v -/
def ErrAt (H : Hp) (a C : Addr) (f : Str) (v : V) : Prop := ∃ d, H a = some (exo a C (some d)) ∧ H d = some (exd d [(f, v)])
theorem ErrAt.mono {H H' : Hp} {a C : Addr} {f : Str} {v : V} (s : Same H H') (e : ErrAt H a C f v) : ErrAt H' a C f v := by
  obtain ⟨d, h1, h2⟩ := e
  exact ⟨d, s _ _ h1, s _ _ h2⟩
def tErr (C : Addr) (f : Str) (ta : TA) : TE := fun σ H Q => ta σ H fun vs H1 => ∃ v, vs = [v] ∧ ∀ a H2, Same H1 H2 → ErrAt H2 a C f v → Q (.ref a) H2
theorem ini_end {H : Hp} {a C : Addr} {f : Str} {v : V} {Q : VK} (na : H a = none) (q : ∀ a H2, Same H H2 → ErrAt H2 a C f v → Q (.ref a) H2) :
    spIni C f [.ref a, v] (upd H a (exo a C none)) (fun u H2 => u = .non ∧ Q (.ref a) H2) E0 := by
  refine ⟨a, v, rfl, upd_same, fun d nd da => ⟨rfl, ?_⟩⟩
  have nd0 : H d = none := by
    rw [upd_ne da] at nd
    exact nd
  refine q a _ ?_ ⟨d, upd_same, ?_⟩
  · intro b o e
    rw [upd_ne (ne_of_none e na), upd_ne (ne_of_none e nd0), upd_ne (ne_of_none e na)]
    exact e
  · rw [upd_ne da, upd_same]
section
variable {X : Cx} {x f : Str} {C : Addr} {e : Expr} {ta : TA} {te : TE} {p pos kp : Pos}
theorem mk_exc {pins : List (Addr × Obj)} {σ : L2.St} {H : Hp} {s : Shared} {Q : VK} {v : V} {us : List Value} {kw : List (Str × Value)} {u : Value} (T : Er X.prog X.w X.K X.mg X.base x C f) (hr : Room 2 X.A) (I : Inv X pins σ H s) (rv : RelV v u)
    (hk : (us = [u] ∧ kw = []) ∨ (us = [] ∧ kw = [(f, u)])) (q : ∀ a H2, Same H H2 → ErrAt H2 a C f v → Q (.ref a) H2) :
    wpAny (model X.prog X.w) X.A (call (.ref C) us kw) (EP X pins σ Q) X.xe s := by
  obtain ⟨nm, qn, N, bs, bm, sn, sub, ab, col, dd, k0, k1, k2, k3, k5, hC, hbm⟩ := T.oex.cls
  obtain ⟨fI, fd, iC, tI, F1, hb, hbk⟩ := T.ini
  obtain ⟨hp, g, dr, tk, os⟩ := s
  have up : hp.objs.size ≤ hp.objs.size + 1 := Nat.le_succ _
  have na : H (hp.objs.size + 1) = none := I.hok.fresh up
  have go := ini_end (C := C) (f := f) (v := v) na q
  have r2 : Vals [V.ref (hp.objs.size + 1), v] [Value.ref (hp.objs.size + 1), u] := .cons rfl (.cons rv .nil)
  have done : ∀ (J : Inv X pins σ (upd H (hp.objs.size + 1) (exo (hp.objs.size + 1) C none)) ⟨(hp.push (PySem.W.kdv_tup us)).push (PySem.HandSPX.excO C hp.objs.size), g, dr, tk, os⟩) (r : Result) (s' : Shared),
      CR CX0 X.stack X.prog X.w (upd H (hp.objs.size + 1) (exo (hp.objs.size + 1) C none)) ⟨(hp.push (PySem.W.kdv_tup us)).push (PySem.HandSPX.excO C hp.objs.size), g, dr, tk, os⟩ (fun u H2 => u = .non ∧ Q (.ref (hp.objs.size + 1)) H2) E0 r s' →
      PySem.W.InitBack (hp.objs.size + 1) (fun r s' => match r with | .ok (.ret v) => EP X pins σ Q v s' | .ok _ => False | .error e => X.xe e s') r s' := by
    intro J r s' hq
    match r, hq with
    | .error e, hq => exact (show False from hq).elim
    | .ok .next, hq => exact False.elim hq
    | .ok .brk, hq => exact False.elim hq
    | .ok .cont, hq => exact False.elim hq
    | .ok (.ret u), hq =>
      obtain ⟨v, H', I3, rv, ev, q3⟩ := J.after hq
      subst ev
      exact ⟨rv, ⟨V.ref (hp.objs.size + 1), H', I3, rfl, q3⟩⟩
  have hget : ∀ us : List Value, ((hp.push (PySem.W.kdv_tup us)).push (PySem.HandSPX.excO C hp.objs.size)).get? (hp.objs.size + 1) = some (PySem.HandSPX.excO C hp.objs.size) := fun us => by heap_get
  have I2 : Inv X pins σ (upd H (hp.objs.size + 1) (exo (hp.objs.size + 1) C none)) ⟨(hp.push (PySem.W.kdv_tup us)).push (PySem.HandSPX.excO C hp.objs.size), g, dr, tk, os⟩ :=
    I.laid (t' := tk) (a := hp.objs.size + 1) (o := exo (hp.objs.size + 1) C none) (h' := (hp.push (PySem.W.kdv_tup us)).push (PySem.HandSPX.excO C hp.objs.size))
      (fun b o e => Heap.get?_push_of_some _ (Heap.get?_push_of_some _ e)) up (exo_ok (hget us))
  rcases hk with ⟨rfl, rfl⟩ | ⟨rfl, rfl⟩
  · have one : [u].length ≤ sizeLine := by
      rw [sizeLine_eq]
      exact (by decide : 1 ≤ 16777216)
    refine wpAny_call (PySem.HandSPX.call_own F.excBase_ValueError (fun Y => PySem.HandSPX.refsVE_contains Y bm hbm) (I.kIn _ _ hC) (PySem.W.looks_findIn I.kIn iC) (fun self => PySem.W.bind_fn I.kIn self tI) one ?_)
    refine codeAny_mono (F1.run _ X.stack _ _ ⟨[Value.ref (hp.objs.size + 1), u], []⟩ [Value.ref (hp.objs.size + 1), u] _ _ E0 (hr.make C [u] []) (I2.env0.make C [u] []) ?_ r2 go) fun r s' hq => done I2 r s' hq
    have z := hb _ [Value.ref (hp.objs.size + 1), u] I2.kIn rfl
    simpa using z
  · refine wpAny_call (call_kw F.excBase_ValueError (fun Y => PySem.HandSPX.refsVE_contains Y bm hbm) (I.kIn _ _ hC) (PySem.W.looks_findIn I.kIn iC) (fun self => PySem.W.bind_fn I.kIn self tI) ?_)
    exact codeAny_mono (F1.run _ X.stack _ _ ⟨[Value.ref (hp.objs.size + 1)], [(f, u)]⟩ [Value.ref (hp.objs.size + 1), u] _ _ E0 (hr.make C [] [(f, u)]) (I2.env0.make C [] [(f, u)]) (hbk _ _ _) r2 go) fun r s' hq => done I2 r s' hq
/-- C(e) -/
theorem pe_err (T : Er X.prog X.w X.K X.mg X.base x C f) (hr : Room 2 X.A) (hg : Gl X x) (ha : PA X [e] ta) (hdb : (x == ("__debug__" : Str)) = false := by decide)
    (he : starEach [e] X.env = (false, eval e X.env) :: starEach [] X.env := by rfl) (hpl : (backTo pos (starEach [] X.env)).any (·.1) = false := by rfl) :
    PE X (.Call (.Name x p) [e] [] pos) (tErr C f ta) := by
  constructor
  intro pins s σ H Q I h
  refine wpAny_Call_Name_kw (ld_glob I hg T.m ?_ hdb)
  refine PySem.W.callWith_K (h₀ := X.base) I.ok.mod.kin T.oex.kC ?_ he hpl
  refine thn (ha.run pos pins s σ H _ I h) ?_
  rintro us s1 ⟨vs, H1, I1, r, v, rfl, q⟩
  obtain ⟨u, rfl, rv⟩ := vals1 r
  exact ⟨I1.kIn, mk_exc T hr I1 rv (.inl ⟨rfl, rfl⟩) q⟩
/-- C(f=e) -/
theorem pe_errK (T : Er X.prog X.w X.K X.mg X.base x C f) (hr : Room 2 X.A) (hg : Gl X x) (he : PE X e te) (hdb : (x == ("__debug__" : Str)) = false := by decide)
    (hall : (backToKw pos (keywordEach [⟨f, e, kp⟩] X.env)).all (·.1.isSome) = true := by rfl) (hks : (backToKw pos (keywordEach [⟨f, e, kp⟩] X.env)).filterMap (·.1) = [f] := by rfl)
    (hpl : ((backTo pos (starEach [] X.env)).any (·.1) || (backToKw pos (keywordEach [⟨f, e, kp⟩] X.env)).any (·.1.isNone)) = false := by rfl) :
    PE X (.Call (.Name x p) [] [⟨f, e, kp⟩] pos) (tErr C f (tCons te tNil)) := by
  constructor
  intro pins s σ H Q I h
  refine wpAny_Call_Name_kw (ld_glob I hg T.m ?_ hdb)
  refine PySem.W.callWith_KW0 (h₀ := X.base) I.ok.mod.kin T.oex.kC hall ?_ hpl
  have hk : PK X [⟨f, e, kp⟩] (tCons te tNil) := pk_cons he pk_nil
  refine thn (hk.run pos pins s σ H _ I h) ?_
  rintro us s1 ⟨vs, H1, I1, r, v, rfl, q⟩
  obtain ⟨u, rfl, rv⟩ := vals1 r
  refine ⟨I1.kIn, ?_⟩
  rw [hks]
  exact mk_exc T hr I1 rv (.inr ⟨rfl, rfl⟩) q
/-- error.f -/
def tErf (K : PySem.W.Frag) (n : Str) (te : TE) : TE := fun σ H Q => te σ H fun x H1 => ∃ a C v, x = .ref a ∧ ExcC K C ∧ PySem.W.findIn K (.ref C) n = some none ∧ ErrAt H1 a C n v ∧ Q v H1
theorem pe_erf {K : PySem.W.Frag} {n : Str} (hK : X.K = K) (he : PE X e te) (hb : attributeBase e n X.env (eval e X.env) = eval e X.env := by rfl) : PE X (.Attribute e n pos) (tErf K n te) := by
  subst hK
  constructor
  intro pins s σ H Q I h
  refine attr_of hb (thn (he.run pins s σ H _ I h) ?_)
  rintro u s1 ⟨x, H1, I1, rx, a, C, v, rfl, T, hno, ⟨d, ha, hd⟩, q⟩
  obtain rfl : u = Value.ref a := rx
  obtain ⟨t1, ho⟩ := exo_at I1.hok ha
  obtain ⟨mA, hns, hr⟩ := exd_at I1.hok hd
  obtain ⟨od, hod, hl⟩ := lookIn_ns hns
  obtain ⟨u, hu, ru⟩ := RelO.some_of (v := v) (o := mA n) (by
    have z := hr n
    rw [show List.lookup n [(n, v)] = some v by simp] at z
    exact z)
  have J : PySem.W.InstAt s1.heap a { cls := .ref C, dict := some d, data := .fields #[.ref t1, .none, .none, .none, .bool false, .none] } C (some od) := ⟨ho, rfl, rfl, hod⟩
  exact HandSPX.exc_get I1.kIn J T.hg T.hk T.hs (PySem.W.findObj_own T.hd hno rfl (by rw [hl, hu])) (handed_of ru) ⟨v, H1, I1.tok _, ru, q⟩
/-- isinstance(error, c) -/
def rIsEr (K : PySem.W.Frag) : List V → Hp → VK → Prop := fun xs H Q => ∃ a C d c cv b, xs = [.ref a, c] ∧ H a = some (exo a C (some d)) ∧ (∃ o, H d = some (exd d o)) ∧ ExcC K C ∧ ClsV c cv ∧ PySem.W.kitOne K (.ref C) cv = some b ∧ Q (.bl b) H
end
end Zx
set_option maxHeartbeats 4000000
namespace Zx
open PySem PySem.W PySem.Calls PyProof.Rows
section
variable {prog : Program} {w : World} {A : Around} {E : Value → Shared → Prop} {s : Shared} {K : Frag} {x D : Addr} {ox od : Obj}
/-- error.__class__, of an error that has attributes -/
theorem cls_err {Q : Option Value → Shared → Prop} (c : L2.ExcC K D) (X : K.In s.heap) (I : InstAt s.heap x ox D (some od)) (fin : Q (some (.ref D)) { s with toks := s.toks + 1 }) : wpAny (model prog w) A (getAttr? (.ref x) "__class__") Q E s := by
  have there : (clsIn K D).isSome = true := by
    obtain ⟨cd, hc, _⟩ := any_some c.hd
    rw [hc]
    rfl
  have fo : findObj K D (some od) "__class__" = some (.bind (.builtin "getset_descriptor.__get__") (.builtin "object.__class__")) := findObj_data there c.ha c.hn c.ht
  obtain ⟨hp, g, d, t, os⟩ := s
  have ty := I.type (M := model prog w)
  have lg := looks_findIn (M := model prog w) X c.hg
  have lh := looks_findIn (M := model prog w) X c.hk
  have lf := looks_find (M := model prog w) X I fo
  have isB : Looks (model prog w) hp (isInstance (.ref x) (.type "BaseException")) true := ty.andThen (looks_subIn X c.hs)
  have n1 : (Value.builtin "BaseException.__getattribute__" == Value.builtin "object.__getattribute__") = false := by decide +kernel
  have n2 : (onTheHeap (Value.ref D) && Value.builtin "BaseException.__getattribute__" == Value.builtin "object.__getattribute__") = false := by
    rw [n1]
    rfl
  have n3 : (false && onTheHeap (Value.builtin "BaseException.__getattribute__")) = false := rfl
  unfold getAttr? getAttrBy? getAttrBy
  refine wpAny_bind (wpAny_mkText (wpAny_bind (wpAny_attempt (wpAny_holding ?_))))
  refine wpAny_bind (ty.at (wpAny_bind (lg.at ?_)))
  show wpAny _ _ (if (onTheHeap (Value.ref D) && Value.builtin "BaseException.__getattribute__" == Value.builtin "object.__getattribute__") = true then _ else _) _ _ _
  rw [n2, if_neg Bool.false_ne_true]
  unfold getAttrByItsOwn hookBefore
  refine wpAny_bind ?_
  rw [if_pos (show onTheHeap (Value.ref D) = true from rfl)]
  refine lh.at (wpAny_bind (wpAny_attempt (wpAny_holding ?_)))
  unfold callGetattribute
  rw [n3, if_neg Bool.false_ne_true]
  unfold boundAndCalled
  rw [PySem.F.excAttr_ValueError.ga.bind (.ref x)]
  refine wpAny_bind (wpAny_pure ?_)
  show wpAny _ _ (call (.builtin "BaseException.__getattribute__") [.ref x, .str "__class__" t]) _ _ _
  refine wpAny_call (codeAny_call_builtin PySem.F.excAttr_ValueError.ga.plain PySem.F.entry_bexc_ga ?_)
  refine @check_slot (model prog w) _ _ ⟨hp, g, d, t + 1, os⟩ "BaseException.__getattribute__" "BaseException" "__getattribute__" (.ref x) [.str "__class__" t] [] _
    (by decide +kernel) (by decide +kernel) isB (PySem.F.args_bexc_ga (.ref x) (.str "__class__" t)) ?_
  unfold Builtin.«object.__getattribute__»
  have sl : (Value.ref x, [Value.str "__class__" t]) = (Value.ref x, [Value.str "__class__" t]) := rfl
  refine wpAny_bind (wpAny_of_eq (a := ((Value.ref x : Value), [Value.str "__class__" t])) ?_ ?_)
  · first
      | rfl
      | (simp only [slotArgs]; rfl)
  refine wpAny_bind (wpAny_pure (wpAny_bind (ty.at (wpAny_bind (lf.at ?_)))))
  show wpAny _ _ (holding [Value.builtin "object.__class__"] (call (.builtin "getset_descriptor.__get__") [.builtin "object.__class__", .ref x, .ref D]) >>= ret) _ _ _
  refine wpAny_bind (wpAny_holding (wpAny_call (class_get (s := ⟨hp, g, d, t + 1, os⟩) (ox := ox) (od := some od) X I c.hm ?_)))
  refine wpAny_pure ?_
  show wpAny _ _ (handedOut (.ref D)) _ _ _
  rw [handedOut_of (v := .ref D) rfl]
  first
    | exact wpAny_pure (wpAny_pure fin)
    | exact wpAny_pure fin
    | exact wpAny_bind (wpAny_pure (wpAny_pure fin))
    | exact wpAny_pure (wpAny_bind (wpAny_pure (wpAny_pure fin)))
theorem kit_err (c : L2.ExcC K D) : KitX K (.ref x) (.ref D) (fun h => InstAt h x ox D (some od)) where
  ty := fun _ _ _ I => I.type
  it := by
    intro _ _ X _
    obtain ⟨cd, hc, _⟩ := any_some c.hd
    unfold clsIn at hc
    split at hc
    · rename_i c' d' cd' sl' ho
      intro A' Q' E' s' k q
      unfold isType loadHead
      exact wpAny_bind (wpAny_loadPart (k _ _ (X _ _ ho)) (wpAny_pure q))
    · cases hc
  ne := by
    intro h tp dd its n sl X htp
    obtain ⟨cd, hc, _⟩ := any_some c.hd
    refine Bool.eq_false_iff.mpr ?_
    intro q
    obtain rfl : D = tp := Value.ref.inj (beq_iff_eq.mp q)
    unfold clsIn at hc
    split at hc
    · rename_i c' d' cd' sl' ho
      cases (X _ _ ho).symm.trans htp
    · cases hc
  ca := fun X I k => cls_err c X I k
end
end Zx
namespace Zx
open PySem PySem.Spec PyProof.Rows L2 Zk
theorem call_isEr {X : Cx} : CallR X (.builtin "isinstance") (rIsEr X.K) := by
  intro pins s σ H xs us Q I r h
  obtain ⟨a, C, d, c, cv, b, rfl, ha, ⟨o, hd⟩, T, k, e, q⟩ := h
  obtain ⟨u1, u2, rfl, r1, r2⟩ := vals2 r
  have e2 := k.eq r2
  subst e2
  cases (show u1 = Value.ref a from r1)
  obtain ⟨t1, ho⟩ := exo_at I.hok ha
  obtain ⟨mA, hns, hr⟩ := exd_at I.hok hd
  obtain ⟨od, hod, hl⟩ := lookIn_ns hns
  have J : PySem.W.InstAt s.heap a { cls := .ref C, dict := some d, data := .fields #[.ref t1, .none, .none, .none, .bool false, .none] } C (some od) := ⟨ho, rfl, rfl, hod⟩
  exact PySem.W.kia_one (kit_err T) I.kIn J e (fun z => nomatch z) fun tk => ⟨.bl b, H, I.kept (t' := tk) (fun _ _ z => z), rfl, q⟩
/-- a def of one parameter that is called by its name -/
def Dkw (P : Program) (w : World) (K : PySem.W.Frag) (mg : Str → Option Value) (base : Heap) (k : Nat) (x f : Str) (sp : Sp) : Prop :=
  ∃ fa fd, GOk P w K mg base CX0 k fa fd [f] sp ∧ mg x = some (.ref fa) ∧ PySem.W.keepIn K (.ref fa) = true ∧ ∀ (s : Shared) (u : Value), BindsTo s fd ⟨[], [(f, u)]⟩ [(f, u)]
section
variable {X : Cx} {k : Nat} {sp : Sp} {x f : Str} {p pos kp : Pos} {e : Expr} {te : TE}
theorem pd_callK (D : Dkw X.prog X.w X.K X.mg X.base k x f sp) (hgd : X.A.guards = some []) (hr : Room k X.A) (hg : Gl X x) (he : PE X e te) (hdb : (x == ("__debug__" : Str)) = false := by decide)
    (hall : (backToKw pos (keywordEach [⟨f, e, kp⟩] X.env)).all (·.1.isSome) = true := by rfl) (hks : (backToKw pos (keywordEach [⟨f, e, kp⟩] X.env)).filterMap (·.1) = [f] := by rfl)
    (hpl : ((backTo pos (starEach [] X.env)).any (·.1) || (backToKw pos (keywordEach [⟨f, e, kp⟩] X.env)).any (·.1.isNone)) = false := by rfl) :
    PE X (.Call (.Name x p) [] [⟨f, e, kp⟩] pos) (tCall sp [] E0 (tCons te tNil)) := by
  obtain ⟨fa, fd, F, hm, hk, hb⟩ := D
  constructor
  intro pins s σ H Q I h
  refine wpAny_Call_Name_kw (ld_glob I hg hm ?_ hdb)
  refine PySem.W.callWith_KW0 (h₀ := X.base) I.ok.mod.kin hk hall ?_ hpl
  have hkw : PK X [⟨f, e, kp⟩] (tCons te tNil) := pk_cons he pk_nil
  refine thn (hkw.run pos pins s σ H _ I h) ?_
  rintro us s1 ⟨vs, H1, I1, r, q⟩
  refine ⟨I1.kIn, ?_⟩
  rw [hks]
  have q' : sp vs H1 Q E0 := by
    have z : sp (vs ++ []) H1 Q E0 := q
    rwa [List.append_nil] at z
  have hl : vs.length = 1 := F.len _ _ _ _ q'
  obtain ⟨v, rfl⟩ : ∃ v, vs = [v] := by
    match vs, hl with
    | [v], _ => exact ⟨v, rfl⟩
  obtain ⟨u, rfl, rv⟩ := vals1 r
  have z := F.go X.A X.stack s1 H1 ⟨[], [(f, u)]⟩ [u] [v] Q E0 hgd hr I1.env0 (hb s1 u) r q'
  refine wpAny_call (codeAny_mono z ?_)
  intro r s' hq
  match r, hq with
  | .error e, hq => exact (show False from hq).elim
  | .ok (.ret u), hq => exact I1.after hq
  | .ok .next, hq => exact False.elim hq
  | .ok .brk, hq => exact False.elim hq
  | .ok .cont, hq => exact False.elim hq
end
end Zx
set_option maxHeartbeats 8000000
namespace K2
open PySem PySem.Spec PyProof.Rows L2 Zk Zx
def top (i : Nat) : Stmt := PySem.Challenge.pw_maskwrites_k02_errors_and_names_of_argum.main.body.getD i (.Pass ⟨0, 0, 0, 0⟩)
def LET : Str := "abcdefghijklmnopqrstuvwxyz"
structure Txt (mg : Str → Option Value) : Prop where
  b_len : mg "len" = none
  b_isinstance : mg "isinstance" = none
  b_str : mg "str" = none
  b_int : mg "int" = none
  b_bool : mg "bool" = none
  b_all : mg "all" = none
  b_repr : mg "repr" = none
  b_range : mg "range" = none
  b_max : mg "max" = none
  b_min : mg "min" = none
  b_enumerate : mg "enumerate" = none
  b_ValueError : mg "ValueError" = none
  g_LETTERS : Gv mg "LETTERS" (.str LET)
  g_LONGEST_NAME : Gv mg "LONGEST_NAME" (.int 8)
  g_LONGEST_TEXT : Gv mg "LONGEST_TEXT" (.int 12)
def letB (x : Str) : Bool := x.cps.toList.all fun c => decide (c ∈ LET.cps.toList)
def rowD : PyData → Bool
  | .str x => letB x
  | _ => false
def nameD : PyData → Bool
  | .str x => letB x && (decide (1 ≤ x.length) && decide (x.length ≤ 8))
  | _ => false
def textD : PyData → Bool
  | .str x => letB x && decide (x.length ≤ 12)
  | _ => false
def numD : PyData → Bool
  | .int i => decide (0 ≤ i)
  | _ => false
def flagD : PyData → Bool
  | .bool _ => true
  | _ => false
def okD (d : PyData) : Prop := ∀ x, d = .str x → x.length ≤ 1000
def spD (f : PyData → Bool) : Sp := fun vs H Q _ => ∃ v d, vs = [v] ∧ Dx H v d ∧ okD d ∧ ∀ H', Same H H' → Q (.bl (f d)) H'
def isS : PyData → Bool
  | .str _ => true
  | _ => false
theorem str_ty (d : PyData) : kitB (tyD d) "str" = some (isS d) := by
  cases d with
  | none  => exact (by decide +kernel : kitB "NoneType" "str" = some false)
  | bool _ => exact (by decide +kernel : kitB "bool" "str" = some false)
  | int _ => exact (by decide +kernel : kitB "int" "str" = some false)
  | str _ => exact (by decide +kernel : kitB "str" "str" = some true)
  | list _ => exact (by decide +kernel : kitB "list" "str" = some false)
  | tuple _ => exact (by decide +kernel : kitB "tuple" "str" = some false)
  | dict _ => exact (by decide +kernel : kitB "dict" "str" = some false)
def isI : PyData → Bool
  | .int _ => true
  | .bool _ => true
  | _ => false
theorem int_ty (d : PyData) : kitB (tyD d) "int" = some (isI d) := by
  cases d with
  | none  => exact (by decide +kernel : kitB "NoneType" "int" = some false)
  | bool _ => exact (by decide +kernel : kitB "bool" "int" = some true)
  | int _ => exact (by decide +kernel : kitB "int" "int" = some true)
  | str _ => exact (by decide +kernel : kitB "str" "int" = some false)
  | list _ => exact (by decide +kernel : kitB "list" "int" = some false)
  | tuple _ => exact (by decide +kernel : kitB "tuple" "int" = some false)
  | dict _ => exact (by decide +kernel : kitB "dict" "int" = some false)
def isB : PyData → Bool
  | .bool _ => true
  | _ => false
theorem bool_ty (d : PyData) : kitB (tyD d) "bool" = some (isB d) := by
  cases d with
  | none  => exact (by decide +kernel : kitB "NoneType" "bool" = some false)
  | bool _ => exact (by decide +kernel : kitB "bool" "bool" = some true)
  | int _ => exact (by decide +kernel : kitB "int" "bool" = some false)
  | str _ => exact (by decide +kernel : kitB "str" "bool" = some false)
  | list _ => exact (by decide +kernel : kitB "list" "bool" = some false)
  | tuple _ => exact (by decide +kernel : kitB "tuple" "bool" = some false)
  | dict _ => exact (by decide +kernel : kitB "dict" "bool" = some false)
theorem isstr {d : PyData} {v : V} {H : Hp} (h : Dx H v d) : (∃ x, d = .str x ∧ v = .str x) ∨ (∀ x, d ≠ .str x) := by
  cases h with
  | str x => exact .inl ⟨x, rfl, rfl⟩
  | _ => exact .inr (fun x z => by cases z)
section
variable {P : Program} {w : World} {K : PySem.W.Frag} {mg : Str → Option Value} {base : Heap} {f : Addr} {fd : FuncData}
-- 9 is_letter_row
abbrev s_is_letter_row : Stmt := top 25
theorem sc_is_letter_row : FnScope ["value", "sign"] ["value"] (defScope s_is_letter_row) := ⟨rfl, rfl, rfl, by decide +kernel, rfl, by decide +kernel, by decide +kernel⟩
theorem ok_is_letter_row (T : Txt mg) (p : Pl K mg "is_letter_row" s_is_letter_row ["value"] f fd) : Dfn P w K mg base 1 "is_letter_row" ["value"] (spD rowD) := by
  have S := sc_is_letter_row
  refine p.d (Fun_okG p.F S (fun vs H Q E h => ?_) (fun cdv A out s H vs Q E hgd hr h => ?_))
  · obtain ⟨v, d, rfl, _⟩ := h
    rfl
  · obtain ⟨v, d, rfl, hd, hk, q⟩ := h
    refine ⟨_, (pss_one (ps_ret (pe_and (pe_callB call_isD (by rfl) T.b_isinstance (by decide +kernel) (pa_cons (pv 0) (pa_cons (pe_bltn (v := .ty "str") (by rfl) T.b_str (by decide +kernel) rfl) pa_nil))) (pe_one (pe_callB (cr_all rfl) (by rfl) T.b_all (by decide +kernel) (pa_cons (pe_lc (own := [("sign", 1)]) rfl S.nd (pi_str (pv 0)) (blkOk_by (own := [("sign", 1)]) (N := ["value", "sign"]) (sc := defScope s_is_letter_row) (by decide +kernel)) (fun _ _ _ _ _ => (pg_name (i := 1) S.nd rfl (.inl rfl))) (fun _ _ _ _ _ => pts_nil) (fun _ _ _ _ _ => (pe_cmpR op_in_sign (pv 1) (pe_gs T.g_LETTERS (by rfl)) rfl))) pa_nil)))))), ?_⟩
    refine ⟨v, rfl, _, v, d, _, rfl, hd, str_ty d, _, rfl, ?_⟩
    rcases isstr hd with ⟨x, rfl, rfl⟩ | hn
    · refine iteT ⟨_, rfl, x, rfl, fun D nD => ?_⟩
      have hx := hk x rfl
      refine lc_it walk_str (fun i H' => Same H H' ∧ H' D = some (.lst (((x.cps.toList.map fun c => decide (c ∈ LET.cps.toList)).take i).map V.bl))) ⟨same_new nD, upd_same⟩ (fun _ _ _ _ => trivial) (fun i v H1 H2 hi hP hy => ?_) (fun H1 hP => ?_)
      · obtain ⟨rfl, c, hc, rfl⟩ := hy
        obtain ⟨sm, hD⟩ := hP
        refine ⟨rfl, ?_⟩
        refine yes_go ?_
        refine ⟨_, rfl, c, LET, rfl, rfl, _, hD, ?_, ?_, ?_⟩
        · rw [List.length_map, List.length_take, List.length_map]
          have : x.cps.toList.length = x.length := rfl
          exact small1000 (by omega)
        · exact fun b o e => by
            rw [upd_ne (ne_of_none e nD)]
            exact sm _ _ e
        · rw [upd_same, List.take_add_one, List.map_append]
          have e : (x.cps.toList.map fun c => decide (c ∈ LET.cps.toList))[i]? = some (decide (c ∈ LET.cps.toList)) := by
            rw [List.getElem?_map, Array.getElem?_toList, hc]
            rfl
          rw [e]
          rfl
      · obtain ⟨sm, hD⟩ := hP
        refine ⟨D, x.cps.toList.map fun c => decide (c ∈ LET.cps.toList), rfl, ?_, ?_⟩
        · refine SqL.of ?_
          rw [hD, List.take_of_length_le (by rw [List.length_map]; exact Nat.le_refl _)]
        · have e : ((x.cps.toList.map fun c => decide (c ∈ LET.cps.toList)).all id) = rowD (.str x) := by
            rw [List.all_map]
            rfl
          rw [e]
          exact q _ sm
    · have e1 : isS d = false := by
        cases d <;> first | rfl | exact absurd rfl (hn _)
      have e2 : rowD d = false := by
        cases d <;> first | rfl | exact absurd rfl (hn _)
      rw [e1]
      refine iteF ?_
      have z := q H (Same.refl H)
      rw [e2] at z
      exact z
theorem qeq {Q : VK} {a b : Bool} {H : Hp} (h : Q (.bl a) H) (e : a = b) : Q (.bl b) H := e ▸ h
theorem row_no {d : PyData} (hn : ∀ x, d ≠ .str x) : rowD d = false := by
  cases d <;> first | rfl | exact absurd rfl (hn _)
theorem name_no {d : PyData} (hn : ∀ x, d ≠ .str x) : nameD d = false := by
  cases d <;> first | rfl | exact absurd rfl (hn _)
theorem text_no {d : PyData} (hn : ∀ x, d ≠ .str x) : textD d = false := by
  cases d <;> first | rfl | exact absurd rfl (hn _)
theorem isS_no {d : PyData} (hn : ∀ x, d ≠ .str x) : isS d = false := by
  cases d <;> first | rfl | exact absurd rfl (hn _)
theorem dle {a b : Nat} : decide ((a : Int) ≤ (b : Int)) = decide (a ≤ b) := by
  by_cases h : a ≤ b
  · rw [decide_eq_true h, decide_eq_true (by omega)]
  · rw [decide_eq_false h, decide_eq_false (by omega)]
-- 4 is_name
abbrev s_is_name : Stmt := top 20
theorem sc_is_name : FnScope ["value"] ["value"] (defScope s_is_name) := ⟨rfl, rfl, rfl, by decide +kernel, rfl, by decide +kernel, by decide +kernel⟩
theorem g_is_name (T : Txt mg) (p : Pl K mg "is_name" s_is_name ["value"] f fd) (D_is_letter_row : Dfn P w K mg base 1 "is_letter_row" ["value"] (spD rowD)) : GOk P w K mg base CX0 2 f fd ["value"] (spD nameD) := by
  have S := sc_is_name
  refine (Fun_okG p.F S (fun vs H Q E h => ?_) (fun cdv A out s H vs Q E hgd hr h => ?_))
  · obtain ⟨v, d, rfl, _⟩ := h
    rfl
  · obtain ⟨v, d, rfl, hd, hk, q⟩ := h
    refine ⟨_, (pss_one (ps_ret (pe_and (pd_call D_is_letter_row hgd (hr.mono (by decide)) (by rfl) (pa_cons (pv 0) pa_nil)) (pe_one (pe_chain op_le op_le pe_int (pe_callB call_len_str (by rfl) T.b_len (by decide +kernel) (pa_cons (pv 0) pa_nil)) (pe_gs T.g_LONGEST_NAME (by rfl))))))), ?_⟩
    refine ⟨v, rfl, v, d, rfl, hd, hk, fun H1 s1 => ⟨_, rfl, ?_⟩⟩
    have q1 := q H1 s1
    rcases isstr hd with ⟨x, rfl, rfl⟩ | hn
    · have hx := hk x rfl
      refine ite2 (fun e => ?_) (fun e => ?_)
      · have e' : letB x = true := e
        refine ⟨_, rfl, x, rfl, Nat.le_of_lt (small1000 hx), _, _, rfl, rfl, _, rfl, ite2 (fun e1 => ⟨_, _, rfl, rfl, ?_⟩) (fun e1 => ?_)⟩
        · have e2 := of_decide_eq_true e1
          refine qeq q1 ?_
          show (letB x && (decide (1 ≤ x.length) && decide (x.length ≤ 8))) = decide ((x.length : Int) ≤ 8)
          rw [e', decide_eq_true (by omega : 1 ≤ x.length), Bool.true_and, Bool.true_and]
          exact dle.symm
        · have e2 : ¬ (1 : Int) ≤ x.length := fun z => e1 (decide_eq_true z)
          refine qeq q1 ?_
          show (letB x && (decide (1 ≤ x.length) && decide (x.length ≤ 8))) = false
          rw [decide_eq_false (by omega : ¬ 1 ≤ x.length), Bool.false_and, Bool.and_false]
      · have e' : letB x = false := by
          have z : rowD (.str x) = false := by simpa using e
          exact z
        refine qeq q1 ?_
        show (letB x && _) = false
        rw [e', Bool.false_and]
    · rw [row_no hn]
      refine iteF (qeq q1 (name_no hn))
-- 5 is_text
theorem ok_is_name (T : Txt mg) (p : Pl K mg "is_name" s_is_name ["value"] f fd) (D_is_letter_row : Dfn P w K mg base 1 "is_letter_row" ["value"] (spD rowD)) : Dfn P w K mg base 2 "is_name" ["value"] (spD nameD) := p.d (g_is_name T p D_is_letter_row)
abbrev s_is_text : Stmt := top 21
theorem sc_is_text : FnScope ["value"] ["value"] (defScope s_is_text) := ⟨rfl, rfl, rfl, by decide +kernel, rfl, by decide +kernel, by decide +kernel⟩
theorem g_is_text (T : Txt mg) (p : Pl K mg "is_text" s_is_text ["value"] f fd) (D_is_letter_row : Dfn P w K mg base 1 "is_letter_row" ["value"] (spD rowD)) : GOk P w K mg base CX0 2 f fd ["value"] (spD textD) := by
  have S := sc_is_text
  refine (Fun_okG p.F S (fun vs H Q E h => ?_) (fun cdv A out s H vs Q E hgd hr h => ?_))
  · obtain ⟨v, d, rfl, _⟩ := h
    rfl
  · obtain ⟨v, d, rfl, hd, hk, q⟩ := h
    refine ⟨_, (pss_one (ps_ret (pe_and (pd_call D_is_letter_row hgd (hr.mono (by decide)) (by rfl) (pa_cons (pv 0) pa_nil)) (pe_one (pe_cmpR op_le (pe_callB call_len_str (by rfl) T.b_len (by decide +kernel) (pa_cons (pv 0) pa_nil)) (pe_gs T.g_LONGEST_TEXT (by rfl)) (nomark _)))))), ?_⟩
    refine ⟨v, rfl, v, d, rfl, hd, hk, fun H1 s1 => ⟨_, rfl, ?_⟩⟩
    have q1 := q H1 s1
    rcases isstr hd with ⟨x, rfl, rfl⟩ | hn
    · have hx := hk x rfl
      refine ite2 (fun e => ?_) (fun e => ?_)
      · have e' : letB x = true := e
        refine ⟨_, rfl, x, rfl, Nat.le_of_lt (small1000 hx), _, _, rfl, rfl, ?_⟩
        refine qeq q1 ?_
        show (letB x && decide (x.length ≤ 12)) = decide ((x.length : Int) ≤ 12)
        rw [e', Bool.true_and]
        exact dle.symm
      · have e' : letB x = false := by
          have z : rowD (.str x) = false := by simpa using e
          exact z
        refine qeq q1 ?_
        show (letB x && _) = false
        rw [e', Bool.false_and]
    · rw [row_no hn]
      refine iteF (qeq q1 (text_no hn))
-- 6 is_number
theorem ok_is_text (T : Txt mg) (p : Pl K mg "is_text" s_is_text ["value"] f fd) (D_is_letter_row : Dfn P w K mg base 1 "is_letter_row" ["value"] (spD rowD)) : Dfn P w K mg base 2 "is_text" ["value"] (spD textD) := p.d (g_is_text T p D_is_letter_row)
abbrev s_is_number : Stmt := top 22
theorem sc_is_number : FnScope ["value"] ["value"] (defScope s_is_number) := ⟨rfl, rfl, rfl, by decide +kernel, rfl, by decide +kernel, by decide +kernel⟩
theorem g_is_number (T : Txt mg) (p : Pl K mg "is_number" s_is_number ["value"] f fd) : GOk P w K mg base CX0 1 f fd ["value"] (spD numD) := by
  have S := sc_is_number
  refine (Fun_okG p.F S (fun vs H Q E h => ?_) (fun cdv A out s H vs Q E hgd hr h => ?_))
  · obtain ⟨v, d, rfl, _⟩ := h
    rfl
  · obtain ⟨v, d, rfl, hd, hk, q⟩ := h
    refine ⟨_, (pss_one (ps_ret (pe_and (pe_callB call_isD (by rfl) T.b_isinstance (by decide +kernel) (pa_cons (pv 0) (pa_cons (pe_bltn (v := .ty "int") (by rfl) T.b_int (by decide +kernel) rfl) pa_nil))) (pe_and (pe_not (pe_callB call_isD (by rfl) T.b_isinstance (by decide +kernel) (pa_cons (pv 0) (pa_cons (pe_bltn (v := .ty "bool") (by rfl) T.b_bool (by decide +kernel) rfl) pa_nil)))) (pe_one (pe_cmpR op_ge (pv 0) pe_int (nomark _))))))), ?_⟩
    have q1 := q H (Same.refl H)
    refine ⟨v, rfl, _, v, d, _, rfl, hd, int_ty d, _, rfl, ?_⟩
    cases hd with
    | int i => exact iteT ⟨_, rfl, _, _, _, _, rfl, .int i, bool_ty _, _, rfl, _, rfl, iteT ⟨_, rfl, _, _, rfl, rfl, q1⟩⟩
    | bl b => exact iteT ⟨_, rfl, _, _, _, _, rfl, .bl b, bool_ty _, _, rfl, _, rfl, iteF q1⟩
    | _ => exact iteF q1
-- 7 is_flag
theorem ok_is_number (T : Txt mg) (p : Pl K mg "is_number" s_is_number ["value"] f fd) : Dfn P w K mg base 1 "is_number" ["value"] (spD numD) := p.d (g_is_number T p)
abbrev s_is_flag : Stmt := top 23
theorem sc_is_flag : FnScope ["value"] ["value"] (defScope s_is_flag) := ⟨rfl, rfl, rfl, by decide +kernel, rfl, by decide +kernel, by decide +kernel⟩
theorem g_is_flag (T : Txt mg) (p : Pl K mg "is_flag" s_is_flag ["value"] f fd) : GOk P w K mg base CX0 1 f fd ["value"] (spD flagD) := by
  have S := sc_is_flag
  refine (Fun_okG p.F S (fun vs H Q E h => ?_) (fun cdv A out s H vs Q E hgd hr h => ?_))
  · obtain ⟨v, d, rfl, _⟩ := h
    rfl
  · obtain ⟨v, d, rfl, hd, hk, q⟩ := h
    refine ⟨_, (pss_one (ps_ret (pe_callB call_isD (by rfl) T.b_isinstance (by decide +kernel) (pa_cons (pv 0) (pa_cons (pe_bltn (v := .ty "bool") (by rfl) T.b_bool (by decide +kernel) rfl) pa_nil))))), ?_⟩
    have q1 := q H (Same.refl H)
    refine ⟨v, rfl, _, v, d, _, rfl, hd, bool_ty d, qeq q1 ?_⟩
    cases d <;> rfl
theorem ok_is_flag (T : Txt mg) (p : Pl K mg "is_flag" s_is_flag ["value"] f fd) : Dfn P w K mg base 1 "is_flag" ["value"] (spD flagD) := p.d (g_is_flag T p)
/-- a value by which texts, numbers or flags are sorted -/
def ScV (v : V) : Prop := (∃ x, v = .str x ∧ x.length ≤ 1000) ∨ (∃ i, v = .int i) ∨ ∃ b, v = .bl b
def spKey : Sp := fun vs H Q _ => ∃ v, vs = [v] ∧ ScV v ∧ ∀ H' k, Same H H' → KeyV H' k v → Q k H'
-- 8 value_key
abbrev s_value_key : Stmt := top 24
theorem sc_value_key : FnScope ["value"] ["value"] (defScope s_value_key) := ⟨rfl, rfl, rfl, by decide +kernel, rfl, by decide +kernel, by decide +kernel⟩
theorem g_value_key (T : Txt mg) (p : Pl K mg "value_key" s_value_key ["value"] f fd) : GOk P w K mg base CX0 1 f fd ["value"] spKey := by
  have S := sc_value_key
  refine (Fun_okG p.F S (fun vs H Q E h => ?_) (fun cdv A out s H vs Q E hgd hr h => ?_))
  · obtain ⟨v, rfl, _⟩ := h
    rfl
  · obtain ⟨v, rfl, sv, q⟩ := h
    refine ⟨_, (pss_cons (ps_if (pt_val (pe_callB call_isD (by rfl) T.b_isinstance (by decide +kernel) (pa_cons (pv 0) (pa_cons (pe_bltn (v := .ty "str") (by rfl) T.b_str (by decide +kernel) rfl) pa_nil))))
      (pss_one (ps_ret (pe_tup (pa_cons (pe_callB call_len_str (by rfl) T.b_len (by decide +kernel) (pa_cons (pv 0) pa_nil)) (pa_cons (pv 0) pa_nil)))))
      pss_nil)
    (pss_one (ps_ret (pv 0)))), ?_⟩
    rcases sv with ⟨x, rfl, hx⟩ | ⟨i, rfl⟩ | ⟨b, rfl⟩
    · refine ⟨_, rfl, _, _, _, _, rfl, .str x, str_ty _, _, rfl, iteT ?_⟩
      refine ⟨_, rfl, x, rfl, Nat.le_of_lt (small1000 hx), _, rfl, by show 2 ≤ sizeLine; decide, fun p hp => ?_⟩
      exact q _ _ (same_new hp) (.str x upd_same)
    · refine ⟨_, rfl, _, _, _, _, rfl, .int i, str_ty _, _, rfl, iteF ?_⟩
      exact ⟨_, rfl, q _ _ (Same.refl H) (.int i)⟩
    · refine ⟨_, rfl, _, _, _, _, rfl, .bl b, str_ty _, _, rfl, iteF ?_⟩
      exact ⟨_, rfl, q _ _ (Same.refl H) (.bl b)⟩
theorem ok_value_key (T : Txt mg) (p : Pl K mg "value_key" s_value_key ["value"] f fd) : Dfn P w K mg base 1 "value_key" ["value"] spKey := p.d (g_value_key T p)
end
section
variable {P : Program} {w : World} {K : PySem.W.Frag} {mg : Str → Option Value} {base : Heap} {f : Addr} {fd : FuncData}
abbrev s_law_well : Stmt := top 27
theorem sc_law_well : FnScope ["script", "start", "mixed", "entry", "digits"] ["script", "start"] (defScope s_law_well) := ⟨rfl, rfl, rfl, by decide +kernel, rfl, by decide +kernel, by decide +kernel⟩
theorem ok_law_well (T : Txt mg) (p : Pl K mg "_law_well" s_law_well ["script", "start"] f fd) : Dfn P w K mg base 1 "_law_well" ["script", "start"] (spWell K) := by
  have S := sc_law_well
  refine p.d (Fun_okG p.F S (fun vs H Q E h => ?_) (fun cdv A out s H vs Q E hgd hr h => ?_))
  · obtain ⟨a, ns, j, rfl, _⟩ := h
    rfl
  · obtain ⟨a, ns, j, rfl, hS, hlen, hb, j0, j1, q⟩ := h
    refine ⟨_, (pss_cons (ps_set (i := 2) S.nd rfl (.inl rfl) (pe_op op_add pe_int (pe_op op_mulG (pv 1) pe_int)))
    (pss_cons (ps_for PassesOwn.never rfl (pi_list (pv 0)) (pg_name (i := 3) S.nd rfl (.inl rfl))
      (pss_one (ps_set (i := 2) S.nd rfl (.inl rfl) (pe_op op_add (pe_op op_mod (pe_callTy call_int1 (by rfl) T.b_int (by decide +kernel) (pa_cons (pe_op op_powG (pe_op op_add (pe_op op_add (pe_op op_mulG (pv 2) pe_int) (pe_op op_mulG (pv 3) (pv 3))) pe_int) pe_int) pa_nil)) pe_int) pe_int))))
    (pss_cons (ps_set (i := 4) S.nd rfl (.inl rfl) (pe_ifExp (PW.pt (pw_and (pt_cmpR op_lt (pv 1) (pe_callB call_len_seq (by rfl) T.b_len (by decide +kernel) (pa_cons (pv 0) pa_nil)) (nomark _)) (pw_and1 (pt_cmpR op_ge (pe_ix ix_list (pv 0) (pv 1) (fun _ _ => rfl)) (pe_op op_powG pe_int pe_int) (nomark _))))) (pe_op op_sub (pe_ix ix_list (pv 0) (pv 1) (fun _ _ => rfl)) (pe_op op_powG pe_int pe_int)) pe_int))
    (pss_one (ps_ret (pe_disp (pps_cons pe_str (pv 4) (pps_cons pe_str (pv 2) pps_nil)) (by rfl) (by rfl) (fun z => by cases z) (by decide))))))), ?_⟩
    have bj : bits j ≤ 10 := bits_nn j0 (by omega)
    have b83 : bits 83 ≤ 7 := bits_nn (by decide) (by decide)
    refine ⟨_, rfl, _, _, rfl, rfl, (by show bits j + bits 83 ≤ 2 ^ 26; omega), _, _, rfl, rfl, ?_⟩
    refine ⟨_, rfl, a, rfl, ⟨_, hS⟩, for_list (K := K) (a := a) (xs := ns.map V.int) (fun i σ H' => H' = H ∧ ∃ (m : Int) (y : Option V), σ = [some (.ref a), some (.int j), some (.int m), y, none] ∧ 0 ≤ m ∧ m < 2 ^ 32)
      ⟨rfl, _, none, rfl, by omega, by omega⟩ (fun i σ H' _ hP => by rw [hP.1]; exact hS) (fun i x σ H' hx hP => ?_) (fun σ H' hP => ?_)⟩
    · obtain ⟨rfl, m, y, rfl, m0, m1⟩ := hP
      obtain ⟨e, he, rfl⟩ : ∃ e, e ∈ ns ∧ x = V.int e := by
        rw [List.getElem?_map] at hx
        cases z : ns[i]? with
        | none =>
          rw [z] at hx
          cases hx
        | some e =>
          rw [z] at hx
          exact ⟨e, List.mem_of_getElem? z, (Option.some.inj hx).symm⟩
      have be := hb e he
      have bm : bits m ≤ 32 := bits_nn m0 m1
      have b7 : bits 70121 ≤ 17 := bits_nn (by decide) (by decide)
      have b41 : bits 41 ≤ 6 := bits_nn (by decide) (by decide)
      have p1 := bits_mul m 70121
      have p2 := bits_mul e e
      have p3 : bits (m * 70121 + e * e) ≤ 2097153 := bits_add (n := 2097152) (by omega) (by omega)
      have p4 : bits (m * 70121 + e * e + 41) ≤ 2097154 := bits_add p3 (by omega)
      refine ⟨_, rfl, _, _, rfl, rfl, (by show bits m + bits 70121 ≤ 2 ^ 26; omega), _, rfl, _, rfl, _, _, rfl, rfl, (by show bits e + bits e ≤ 2 ^ 26; omega), _, _, rfl, rfl, _, _, rfl, rfl, _, _, rfl, rfl, ⟨by decide, ?_⟩, .inl ⟨_, rfl, _, _, rfl, rfl, (by show (0 : Int) < 2147483563; decide), _, _, rfl, rfl, rfl, _, _, rfl, ?_, ?_⟩⟩
      · show (bits (m * 70121 + e * e + 41) : Int) * 2 ≤ 2 ^ 27
        omega
      · have := Int.emod_nonneg ((m * 70121 + e * e + 41) ^ (2 : Int).toNat) (by decide : (2147483563 : Int) ≠ 0)
        omega
      · have := Int.emod_lt_of_pos ((m * 70121 + e * e + 41) ^ (2 : Int).toNat) (by decide : (0 : Int) < 2147483563)
        omega
    · obtain ⟨rfl, m, y, rfl, m0, m1⟩ := hP
      -- the end: whatever digits are
      have fin : ∀ d : Int, 0 ≤ d → bits d ≤ 2000000 → ∀ p, H' p = none → Q (.ref p) (upd (upd H' p (.dK [])) p (wellO d m)) := fun d d0 d1 p np => by
        rw [upd_upd]
        exact q _ _ (same_new np) np ⟨d, m, upd_same, d0, d1, m0, m1⟩
      have ret : ∀ d : Int, 0 ≤ d → bits d ≤ 2000000 → ∀ p, H' p = none → Q (.ref p) (upd (upd H' p (.dK [])) p (.dK (mergeK [] [(kD, V.int d), (kM, V.int m)]))) := fun d d0 d1 p np => by
        rw [well_merge]
        exact fin d d0 d1 p np
      refine ⟨_, rfl, _, rfl, a, _, rfl, .inl hS, _, _, rfl, rfl, _, rfl, ?_⟩
      have small : bits 0 ≤ 2000000 := by decide
      refine ite2 (fun e => ?_) (fun e => ?_)
      · have e1 : j < ((ns.map V.int).length : Int) := of_decide_eq_true e
        rw [List.length_map] at e1
        obtain ⟨k, rfl⟩ : ∃ k : Nat, j = k := ⟨j.toNat, by omega⟩
        have hk : k < ns.length := by omega
        have g : (ns.map V.int)[k]? = some (.int ns[k]) := by
          rw [List.getElem?_map, List.getElem?_eq_getElem hk]
          rfl
        have b10 : bits 10 ≤ 4 := bits_nn (by decide) (by decide)
        have hp : (0 : Int) ≤ 18 ∧ (bits 10 : Int) * 18 ≤ 2 ^ 27 := ⟨by decide, by omega⟩
        refine ⟨_, rfl, _, rfl, a, _, _, _, rfl, rfl, hS, atI_nat g, _, _, rfl, rfl, hp, _, _, rfl, rfl, _, rfl, ?_⟩
        refine ite2 (fun e2 => ?_) (fun e2 => ?_)
        · have e3 := of_decide_eq_true e2
          refine ⟨_, rfl, _, rfl, a, _, _, _, rfl, rfl, hS, atI_nat g, _, _, rfl, rfl, hp, _, _, rfl, rfl, fun p np => ?_⟩
          refine ⟨_, rfl, _, rfl, upd_same, [(kD, _), (kM, _)], rfl, by show 2 ≤ 15; decide, ?_⟩
          refine ret _ (by omega) ?_ p np
          refine Nat.le_trans (bits_le (j := ns[k]) ?_) (Nat.le_trans (hb _ (List.getElem_mem hk)) (by decide))
          have z : (0 : Int) ≤ 10 ^ (18 : Int).toNat := by decide
          omega
        · refine fun p np => ?_
          refine ⟨_, rfl, _, rfl, upd_same, [(kD, _), (kM, _)], rfl, by show 2 ≤ 15; decide, ?_⟩
          exact ret 0 (by decide) small p np
      · refine fun p np => ?_
        refine ⟨_, rfl, _, rfl, upd_same, [(kD, _), (kM, _)], rfl, by show 2 ≤ 15; decide, ?_⟩
        exact ret 0 (by decide) small p np
-- 12 _law_draw
abbrev s_law_draw : Stmt := top 28
theorem sc_law_draw : FnScope ["well", "bound", "found"] ["well", "bound"] (defScope s_law_draw) := ⟨rfl, rfl, rfl, by decide +kernel, rfl, by decide +kernel, by decide +kernel⟩
theorem ok_law_draw (T : Txt mg) (p : Pl K mg "_law_draw" s_law_draw ["well", "bound"] f fd) : Dfn P w K mg base 1 "_law_draw" ["well", "bound"] spDraw := by
  have S := sc_law_draw
  refine p.d (Fun_okG p.F S (fun vs H Q E h => ?_) (fun cdv A out s H vs Q E hgd hr h => ?_))
  · obtain ⟨p, b, rfl, _⟩ := h
    rfl
  · obtain ⟨p, b, rfl, ⟨d, m, hw, d0, d1, m0, m1⟩, b0, b1, q⟩ := h
    refine ⟨_, (pss_cons (ps_if (pt_cmpR op_ge (pe_dget (hu_of hr) (pv 0) pe_str (fun _ _ => rfl)) (pv 1) (nomark _))
      (pss_cons (ps_set (i := 2) S.nd rfl (.inl rfl) (pe_op op_mod (pe_callTy call_int1 (by rfl) T.b_int (by decide +kernel) (pa_cons (pe_dget (hu_of hr) (pv 0) pe_str (fun _ _ => rfl)) pa_nil)) (pv 1)))
      (pss_cons (ps_dput (hu_of hr) (pv 0) pe_str (pe_op op_fdiv (pe_dget (hu_of hr) (pv 0) pe_str (fun _ _ => rfl)) (pv 1)) rfl)
      (pss_one (ps_ret (pv 2)))))
      pss_nil)
    (pss_cons (ps_dput (hu_of hr) (pv 0) pe_str (pe_op op_mod (pe_callTy call_int1 (by rfl) T.b_int (by decide +kernel) (pa_cons (pe_op op_add (pe_op op_mulG (pe_dget (hu_of hr) (pv 0) pe_str (fun _ _ => rfl)) pe_int) pe_int) pa_nil)) pe_int) rfl)
    (pss_one (ps_ret (pe_op op_mod (pe_op op_fdiv (pe_op op_mod (pe_callTy call_int1 (by rfl) T.b_int (by decide +kernel) (pa_cons (pe_op op_powG (pe_op op_mod (pe_callTy call_int1 (by rfl) T.b_int (by decide +kernel) (pa_cons (pe_op op_powG (pe_dget (hu_of hr) (pv 0) pe_str (fun _ _ => rfl)) pe_int) pa_nil)) pe_int) pe_int) pa_nil)) pe_int) pe_int) (pv 1)))))), ?_⟩
    refine ⟨_, rfl, p, _, rfl, wellD hw, _, rfl, _, _, rfl, rfl, _, rfl, ite2 (fun e => ?_) (fun e => ?_)⟩
    · refine ⟨_, rfl, p, _, rfl, wellD hw, .inl ⟨_, rfl, _, rfl, _, _, rfl, rfl, b0, ?_⟩⟩
      refine ⟨_, rfl, p, _, rfl, wellD hw, _, rfl, _, _, rfl, rfl, ⟨b0, by omega⟩, _, rfl, p, _, rfl, wellPD hw, ?_⟩
      refine ⟨_, rfl, ?_⟩
      refine q _ _ ExB.put ⟨d / b, m, upd_same, Int.ediv_nonneg d0 (by omega), ?_, m0, m1⟩ (Int.emod_nonneg _ (by omega)) (Int.emod_lt_of_pos _ b0)
      refine Nat.le_trans (bits_le ?_) d1
      have := Int.ediv_le_self b d0
      have := Int.ediv_nonneg d0 (Int.le_of_lt b0)
      omega
    · have bm : bits m ≤ 32 := bits_nn m0 m1
      have b4 : bits 48821 ≤ 16 := bits_nn (by decide) (by decide)
      refine ⟨_, rfl, p, _, rfl, wellM hw, _, _, rfl, rfl, (by show bits m + bits 48821 ≤ 2 ^ 26; omega), _, _, rfl, rfl, .inl ⟨_, rfl, _, _, rfl, rfl, (by show (0 : Int) < 2147483647; decide), ?_⟩⟩
      have n0 := Int.emod_nonneg (m * 48821 + 6073) (by decide : (2147483647 : Int) ≠ 0)
      have n1 := Int.emod_lt_of_pos (m * 48821 + 6073) (by decide : (0 : Int) < 2147483647)
      have bm2 : bits ((m * 48821 + 6073) % 2147483647) ≤ 32 := bits_nn n0 (by omega)
      refine ⟨_, rfl, p, _, rfl, wellPM hw, ?_⟩
      refine ⟨_, rfl, p, _, rfl, wellM upd_same, _, _, rfl, rfl, ⟨by decide, (by show (bits ((m * 48821 + 6073) % 2147483647) : Int) * 2 ≤ 2 ^ 27; omega)⟩, .inl ⟨_, rfl, _, _, rfl, rfl, (by show (0 : Int) < 2147483587; decide), ?_⟩⟩
      have k0 := Int.emod_nonneg (((m * 48821 + 6073) % 2147483647) ^ (2 : Int).toNat) (by decide : (2147483587 : Int) ≠ 0)
      have k1 := Int.emod_lt_of_pos (((m * 48821 + 6073) % 2147483647) ^ (2 : Int).toNat) (by decide : (0 : Int) < 2147483587)
      have bm3 : bits (((m * 48821 + 6073) % 2147483647) ^ (2 : Int).toNat % 2147483587) ≤ 32 := bits_nn k0 (by omega)
      refine ⟨_, _, rfl, rfl, ⟨by decide, (by show (bits (((m * 48821 + 6073) % 2147483647) ^ (2 : Int).toNat % 2147483587) : Int) * 3 ≤ 2 ^ 27; omega)⟩, .inl ⟨_, rfl, _, _, rfl, rfl, (by show (0 : Int) < 1000000087; decide), _, _, rfl, rfl, ⟨by decide, by decide⟩, _, rfl, _, _, rfl, rfl, b0, ?_⟩⟩
      exact q _ _ ExB.put ⟨d, _, upd_same, d0, d1, n0, by omega⟩ (Int.emod_nonneg _ (by omega)) (Int.emod_lt_of_pos _ b0)
-- 13 _law_choose
abbrev s_law_choose : Stmt := top 29
theorem sc_law_choose : FnScope ["well", "things"] ["well", "things"] (defScope s_law_choose) := ⟨rfl, rfl, rfl, by decide +kernel, rfl, by decide +kernel, by decide +kernel⟩
theorem ok_law_choose (T : Txt mg) (p : Pl K mg "_law_choose" s_law_choose ["well", "things"] f fd) (D_law_draw : Dfn P w K mg base 1 "_law_draw" ["well", "bound"] spDraw) : Dfn P w K mg base 2 "_law_choose" ["well", "things"] (spChoose K) := by
  have S := sc_law_choose
  refine p.d (Fun_okG p.F S (fun vs H Q E h => ?_) (fun cdv A out s H vs Q E hgd hr h => ?_))
  · obtain ⟨p, t, xs, rfl, _⟩ := h
    rfl
  · obtain ⟨p, t, xs, rfl, hw, hS, hne, hl, q⟩ := h
    refine ⟨_, (pss_one (ps_ret (pe_ix ix_list (pv 1) (pd_call D_law_draw hgd (hr.mono (by decide)) (by rfl) (pa_cons (pv 0) (pa_cons (pe_callB call_len_seq (by rfl) T.b_len (by decide +kernel) (pa_cons (pv 1) pa_nil)) pa_nil))) (fun _ _ => rfl)))), ?_⟩
    have h0 : 0 < xs.length := by
      cases xs with
      | nil => exact absurd rfl hne
      | cons => exact Nat.succ_pos _
    refine ⟨_, rfl, _, rfl, _, rfl, t, xs, rfl, .inl hS, p, xs.length, rfl, hw, by omega, by omega, fun H1 r e1 w1 r0 r1 => ?_⟩
    obtain ⟨j, rfl⟩ : ∃ j : Nat, r = j := ⟨r.toNat, by omega⟩
    have hj : j < xs.length := by omega
    exact ⟨t, xs, j, xs[j], rfl, rfl, seq_exb hw hS e1, atI_nat (List.getElem?_eq_getElem hj), q _ _ e1 w1 (List.getElem_mem hj)⟩
end
end K2
set_option maxHeartbeats 8000000
namespace K2
open PySem PySem.Spec PyProof.Rows L2 Zk Zx
def CN (i : Nat) : Str := (["BadSchema", "BadPath", "BadValue", "BadPaper", "BadStep", "BadProgram", "BadMask", "BadText", "BadCommand", "Unset", "Lost", "Refused", "UnknownNumber", "NothingToUndo"] : List Str).getD i ""
def FN (i : Nat) : Str := (["value", "value", "value", "value", "value", "value", "value", "value", "command", "path", "pair", "number", "number", "many"] : List Str).getD i ""
/-- what is known of the errors' classes -/
structure Te (P : Program) (w : World) (K : PySem.W.Frag) (mg : Str → Option Value) (base : Heap) (cs : Nat → Addr) (CM : Addr) : Prop where
  er : ∀ i, i < 14 → Er P w K mg base (CN i) (cs i) (FN i)
  mask : mg "MaskError" = some (.ref CM)
  kit : ∀ i j, i < 14 → j < 14 → PySem.W.kitOne K (.ref (cs i)) (.ref (cs j)) = some (decide (i = j))
  kM : ∀ i, i < 14 → PySem.W.kitOne K (.ref (cs i)) (.ref CM) = some true
  kV : ∀ i, i < 14 → PySem.W.kitOne K (.ref (cs i)) (.type "ValueError") = some true
def ErrsAt (cs : Nat → Addr) (H : Hp) (L : Addr) (v : V) : Prop := ∃ as : List Addr, as.length = 14 ∧ H L = some (.lst (as.map V.ref)) ∧ ∀ i, i < 14 → ErrAt H (as.getD i 0) (cs i) (FN i) v
theorem ErrsAt.mono {cs : Nat → Addr} {H H' : Hp} {L : Addr} {v : V} (s : Same H H') (e : ErrsAt cs H L v) : ErrsAt cs H' L v := by
  obtain ⟨as, h1, h2, h3⟩ := e
  exact ⟨as, h1, s _ _ h2, fun i hi => (h3 i hi).mono s⟩
/-- one object that is no error and not the list changes -/
theorem ErrsAt.exb {cs : Nat → Addr} {H H' : Hp} {L q : Addr} {v : V} {o : HO} (x : ExB q H H') (hq : H q = some o) (ho : ∀ φ, o ≠ .ext φ) (hL : L ≠ q) (e : ErrsAt cs H L v) : ErrsAt cs H' L v := by
  obtain ⟨as, h1, h2, h3⟩ := e
  refine ⟨as, h1, x _ _ hL h2, fun i hi => ?_⟩
  obtain ⟨d, e1, e2⟩ := h3 i hi
  exact ⟨d, x _ _ (ne_of e1 hq (fun z => ho _ z.symm)) e1, x _ _ (ne_of e2 hq (fun z => ho _ z.symm)) e2⟩
def spMade (cs : Nat → Addr) : Sp := fun vs H Q _ => ∃ v, vs = [v] ∧ ∀ H' L, Same H H' → H L = none → ErrsAt cs H' L v → Q (.ref L) H'
def spKinds (cs : Nat → Addr) : Sp := fun vs H Q _ => ∃ a i v, vs = [.ref a] ∧ i < 14 ∧ ErrAt H a (cs i) (FN i) v ∧ ∀ H' p, Same H H' → H' p = some (.lst (((List.range 14).map fun j => decide (i = j)).map V.bl)) → Q (.ref p) H'
def spOne (cs : Nat → Addr) : Sp := fun vs H Q _ => ∃ a i v, vs = [.ref a, .int ((i : Nat) : Int)] ∧ i < 14 ∧ ErrAt H a (cs i) (FN i) v ∧ ∀ H', Same H H' → Q (.bl true) H'
def spKept (cs : Nat → Addr) : Sp := fun vs H Q _ => ∃ L v, vs = [.ref L] ∧ ErrsAt cs H L v ∧ ∀ H' p, Same H H' → H' p = some (.lst (List.replicate 14 v)) → Q (.ref p) H'
theorem dpAll_bls {K : PySem.W.Frag} {H : Hp} : ∀ l : List Bool, DpAll K H (l.map V.bl) (l.map PyData.bool)
  | [] => .nil
  | b :: l => .cons (.bl b) (dpAll_bls l)
theorem shaped_bls (l : List Bool) : SeqAt.shaped (.list (l.map PyData.bool)) = true := by
  have h1 : ∀ l : List Bool, PyData.canLayAll0 (l.map PyData.bool) = true := fun l => by
    induction l with
    | nil => rfl
    | cons c l ih => simpa [PyData.canLayAll0, PyData.canLay0] using ih
  have h2 : ∀ l : List Bool, PyData.depthAll (l.map PyData.bool) ≤ 1 := fun l => by
    induction l with
    | nil => simp [PyData.depthAll]
    | cons c l ih => simp [PyData.depthAll, PyData.depth] <;> omega
  unfold SeqAt.shaped
  rw [Bool.and_eq_true]
  refine ⟨by simpa [PyData.canLay0] using h1 l, decide_eq_true ?_⟩
  have := h2 l
  simp only [PyData.depth]
  omega
theorem eqv_bls (l : List Bool) : PyData.eqv (.list (l.map PyData.bool)) (.list (l.map PyData.bool)) = true := SeqAt.eqv_refl _ (SeqAt.canLay_of_shaped (shaped_bls l))
section
variable {P : Program} {w : World} {K : PySem.W.Frag} {mg : Str → Option Value} {base : Heap} {f : Addr} {fd : FuncData} {cs : Nat → Addr} {CM : Addr}
abbrev s_law_kinds : Stmt := top 31
theorem sc_law_kinds : FnScope ["error", "kinds"] ["error"] (defScope s_law_kinds) := ⟨rfl, rfl, rfl, by decide +kernel, rfl, by decide +kernel, by decide +kernel⟩
theorem ok_law_kinds (T : Txt mg) (TE : Te P w K mg base cs CM) (p : Pl K mg "_law_kinds" s_law_kinds ["error"] f fd) : Dfn P w K mg base 1 "_law_kinds" ["error"] (spKinds cs) := by
  have S := sc_law_kinds
  refine p.d (Fun_okG p.F S (fun vs H Q E h => ?_) (fun cdv A out s H vs Q E hgd hr h => ?_))
  · obtain ⟨a, i, v, rfl, _⟩ := h
    rfl
  · obtain ⟨a, i, v, rfl, hi, ⟨d, ha, hd⟩, q⟩ := h
    have ic := (TE.er i hi).ic
    refine ⟨_, (pss_cons (ps_set (i := 1) S.nd rfl (.inl rfl) (pe_lst (pa_cons (pe_callB call_isEr (by rfl) T.b_isinstance (by decide +kernel) (pa_cons (pv 0) (pa_cons (pe_glob (v := .ref _) rfl (TE.er 0 (by decide)).m rfl) pa_nil))) (pa_cons (pe_callB call_isEr (by rfl) T.b_isinstance (by decide +kernel) (pa_cons (pv 0) (pa_cons (pe_glob (v := .ref _) rfl (TE.er 1 (by decide)).m rfl) pa_nil))) (pa_cons (pe_callB call_isEr (by rfl) T.b_isinstance (by decide +kernel) (pa_cons (pv 0) (pa_cons (pe_glob (v := .ref _) rfl (TE.er 2 (by decide)).m rfl) pa_nil))) pa_nil)))))
    (pss_cons (ps_set (i := 1) S.nd rfl (.inl rfl) (pe_op op_cat (pv 1) (pe_lst (pa_cons (pe_callB call_isEr (by rfl) T.b_isinstance (by decide +kernel) (pa_cons (pv 0) (pa_cons (pe_glob (v := .ref _) rfl (TE.er 3 (by decide)).m rfl) pa_nil))) (pa_cons (pe_callB call_isEr (by rfl) T.b_isinstance (by decide +kernel) (pa_cons (pv 0) (pa_cons (pe_glob (v := .ref _) rfl (TE.er 4 (by decide)).m rfl) pa_nil))) (pa_cons (pe_callB call_isEr (by rfl) T.b_isinstance (by decide +kernel) (pa_cons (pv 0) (pa_cons (pe_glob (v := .ref _) rfl (TE.er 5 (by decide)).m rfl) pa_nil))) pa_nil))))))
    (pss_cons (ps_set (i := 1) S.nd rfl (.inl rfl) (pe_op op_cat (pv 1) (pe_lst (pa_cons (pe_callB call_isEr (by rfl) T.b_isinstance (by decide +kernel) (pa_cons (pv 0) (pa_cons (pe_glob (v := .ref _) rfl (TE.er 6 (by decide)).m rfl) pa_nil))) (pa_cons (pe_callB call_isEr (by rfl) T.b_isinstance (by decide +kernel) (pa_cons (pv 0) (pa_cons (pe_glob (v := .ref _) rfl (TE.er 7 (by decide)).m rfl) pa_nil))) (pa_cons (pe_callB call_isEr (by rfl) T.b_isinstance (by decide +kernel) (pa_cons (pv 0) (pa_cons (pe_glob (v := .ref _) rfl (TE.er 8 (by decide)).m rfl) pa_nil))) pa_nil))))))
    (pss_cons (ps_set (i := 1) S.nd rfl (.inl rfl) (pe_op op_cat (pv 1) (pe_lst (pa_cons (pe_callB call_isEr (by rfl) T.b_isinstance (by decide +kernel) (pa_cons (pv 0) (pa_cons (pe_glob (v := .ref _) rfl (TE.er 9 (by decide)).m rfl) pa_nil))) (pa_cons (pe_callB call_isEr (by rfl) T.b_isinstance (by decide +kernel) (pa_cons (pv 0) (pa_cons (pe_glob (v := .ref _) rfl (TE.er 10 (by decide)).m rfl) pa_nil))) (pa_cons (pe_callB call_isEr (by rfl) T.b_isinstance (by decide +kernel) (pa_cons (pv 0) (pa_cons (pe_glob (v := .ref _) rfl (TE.er 11 (by decide)).m rfl) pa_nil))) pa_nil))))))
    (pss_one (ps_ret (pe_op op_cat (pv 1) (pe_lst (pa_cons (pe_callB call_isEr (by rfl) T.b_isinstance (by decide +kernel) (pa_cons (pv 0) (pa_cons (pe_glob (v := .ref _) rfl (TE.er 12 (by decide)).m rfl) pa_nil))) (pa_cons (pe_callB call_isEr (by rfl) T.b_isinstance (by decide +kernel) (pa_cons (pv 0) (pa_cons (pe_glob (v := .ref _) rfl (TE.er 13 (by decide)).m rfl) pa_nil))) pa_nil)))))))))), ?_⟩
    refine ⟨_, rfl, a, _, d, _, _, _, rfl, ha, ⟨_, hd⟩, ic, .own _, TE.kit i 0 hi (by decide), ?_⟩
    refine ⟨_, rfl, a, _, d, _, _, _, rfl, ha, ⟨_, hd⟩, ic, .own _, TE.kit i 1 hi (by decide), ?_⟩
    refine ⟨_, rfl, a, _, d, _, _, _, rfl, ha, ⟨_, hd⟩, ic, .own _, TE.kit i 2 hi (by decide), ?_⟩
    refine ⟨(by show 3 ≤ sizeLine; decide), fun l0 n0 => ?_⟩
    have s0 := same_new (o := .lst [.bl (decide (i = 0)), .bl (decide (i = 1)), .bl (decide (i = 2))]) n0
    refine ⟨_, rfl, ?_⟩
    refine ⟨_, rfl, a, _, d, _, _, _, rfl, (s0 _ _ ha), ⟨_, (s0 _ _ hd)⟩, ic, .own _, TE.kit i 3 hi (by decide), ?_⟩
    refine ⟨_, rfl, a, _, d, _, _, _, rfl, (s0 _ _ ha), ⟨_, (s0 _ _ hd)⟩, ic, .own _, TE.kit i 4 hi (by decide), ?_⟩
    refine ⟨_, rfl, a, _, d, _, _, _, rfl, (s0 _ _ ha), ⟨_, (s0 _ _ hd)⟩, ic, .own _, TE.kit i 5 hi (by decide), ?_⟩
    refine ⟨(by show 3 ≤ sizeLine; decide), fun m0 nm0 => ?_⟩
    have t0 := same_new (o := .lst [.bl (decide (i = 3)), .bl (decide (i = 4)), .bl (decide (i = 5))]) nm0
    refine ⟨l0, m0, _, _, rfl, rfl, t0 _ _ upd_same, upd_same, (by show 3 + 3 ≤ sizeLine; decide), fun l1 n1 => ?_⟩
    have s1 := (s0.trans t0).trans (same_new (o := .lst [.bl (decide (i = 0)), .bl (decide (i = 1)), .bl (decide (i = 2)), .bl (decide (i = 3)), .bl (decide (i = 4)), .bl (decide (i = 5))]) n1)
    refine ⟨_, rfl, ?_⟩
    refine ⟨_, rfl, a, _, d, _, _, _, rfl, (s1 _ _ ha), ⟨_, (s1 _ _ hd)⟩, ic, .own _, TE.kit i 6 hi (by decide), ?_⟩
    refine ⟨_, rfl, a, _, d, _, _, _, rfl, (s1 _ _ ha), ⟨_, (s1 _ _ hd)⟩, ic, .own _, TE.kit i 7 hi (by decide), ?_⟩
    refine ⟨_, rfl, a, _, d, _, _, _, rfl, (s1 _ _ ha), ⟨_, (s1 _ _ hd)⟩, ic, .own _, TE.kit i 8 hi (by decide), ?_⟩
    refine ⟨(by show 3 ≤ sizeLine; decide), fun m1 nm1 => ?_⟩
    have t1 := same_new (o := .lst [.bl (decide (i = 6)), .bl (decide (i = 7)), .bl (decide (i = 8))]) nm1
    refine ⟨l1, m1, _, _, rfl, rfl, t1 _ _ upd_same, upd_same, (by show 6 + 3 ≤ sizeLine; decide), fun l2 n2 => ?_⟩
    have s2 := (s1.trans t1).trans (same_new (o := .lst [.bl (decide (i = 0)), .bl (decide (i = 1)), .bl (decide (i = 2)), .bl (decide (i = 3)), .bl (decide (i = 4)), .bl (decide (i = 5)), .bl (decide (i = 6)), .bl (decide (i = 7)), .bl (decide (i = 8))]) n2)
    refine ⟨_, rfl, ?_⟩
    refine ⟨_, rfl, a, _, d, _, _, _, rfl, (s2 _ _ ha), ⟨_, (s2 _ _ hd)⟩, ic, .own _, TE.kit i 9 hi (by decide), ?_⟩
    refine ⟨_, rfl, a, _, d, _, _, _, rfl, (s2 _ _ ha), ⟨_, (s2 _ _ hd)⟩, ic, .own _, TE.kit i 10 hi (by decide), ?_⟩
    refine ⟨_, rfl, a, _, d, _, _, _, rfl, (s2 _ _ ha), ⟨_, (s2 _ _ hd)⟩, ic, .own _, TE.kit i 11 hi (by decide), ?_⟩
    refine ⟨(by show 3 ≤ sizeLine; decide), fun m2 nm2 => ?_⟩
    have t2 := same_new (o := .lst [.bl (decide (i = 9)), .bl (decide (i = 10)), .bl (decide (i = 11))]) nm2
    refine ⟨l2, m2, _, _, rfl, rfl, t2 _ _ upd_same, upd_same, (by show 9 + 3 ≤ sizeLine; decide), fun l3 n3 => ?_⟩
    have s3 := (s2.trans t2).trans (same_new (o := .lst [.bl (decide (i = 0)), .bl (decide (i = 1)), .bl (decide (i = 2)), .bl (decide (i = 3)), .bl (decide (i = 4)), .bl (decide (i = 5)), .bl (decide (i = 6)), .bl (decide (i = 7)), .bl (decide (i = 8)), .bl (decide (i = 9)), .bl (decide (i = 10)), .bl (decide (i = 11))]) n3)
    refine ⟨_, rfl, ?_⟩
    refine ⟨_, rfl, a, _, d, _, _, _, rfl, (s3 _ _ ha), ⟨_, (s3 _ _ hd)⟩, ic, .own _, TE.kit i 12 hi (by decide), ?_⟩
    refine ⟨_, rfl, a, _, d, _, _, _, rfl, (s3 _ _ ha), ⟨_, (s3 _ _ hd)⟩, ic, .own _, TE.kit i 13 hi (by decide), ?_⟩
    refine ⟨(by show 2 ≤ sizeLine; decide), fun m3 nm3 => ?_⟩
    have t3 := same_new (o := .lst [.bl (decide (i = 12)), .bl (decide (i = 13))]) nm3
    refine ⟨l3, m3, _, _, rfl, rfl, t3 _ _ upd_same, upd_same, (by show 12 + 2 ≤ sizeLine; decide), fun l4 n4 => ?_⟩
    exact q _ _ ((s3.trans t3).trans (same_new n4)) upd_same
abbrev s_law_of_one_kind : Stmt := top 32
theorem sc_law_of_one_kind : FnScope ["error", "at", "k"] ["error", "at"] (defScope s_law_of_one_kind) := ⟨rfl, rfl, rfl, by decide +kernel, rfl, by decide +kernel, by decide +kernel⟩
theorem ok_law_of_one_kind (T : Txt mg) (TE : Te P w K mg base cs CM) (p : Pl K mg "_law_of_one_kind" s_law_of_one_kind ["error", "at"] f fd) (D_law_kinds : Dfn P w K mg base 1 "_law_kinds" ["error"] (spKinds cs)) : Dfn P w K mg base 2 "_law_of_one_kind" ["error", "at"] (spOne cs) := by
  have S := sc_law_of_one_kind
  refine p.d (Fun_okG p.F S (fun vs H Q E h => ?_) (fun cdv A out s H vs Q E hgd hr h => ?_))
  · obtain ⟨a, i, v, rfl, _⟩ := h
    rfl
  · obtain ⟨a, i, v, rfl, hi, ⟨d, ha, hd⟩, q⟩ := h
    have ic := (TE.er i hi).ic
    refine ⟨_, (pss_cons (ps_if (PW.pt (pw_or (pt_not (pt_val (pe_callB call_isEr (by rfl) T.b_isinstance (by decide +kernel) (pa_cons (pv 0) (pa_cons (pe_glob (v := .ref _) rfl TE.mask rfl) pa_nil))))) (pw_or1 (pt_not (pt_val (pe_callB call_isEr (by rfl) T.b_isinstance (by decide +kernel) (pa_cons (pv 0) (pa_cons (pe_bltn (v := .ty "ValueError") (by rfl) T.b_ValueError (by decide +kernel) rfl) pa_nil))))))))
      (pss_one (ps_ret pe_bl))
      pss_nil)
    (pss_one (ps_ret (pe_cmpR (op_eqD hr.units) (pd_call D_law_kinds hgd (hr.mono (by decide)) (by rfl) (pa_cons (pv 0) pa_nil)) (pe_lc (own := [("k", 2)]) rfl S.nd (pi_range1 (by rfl) T.b_range (pa_cons pe_int pa_nil)) (blkOk_by (own := [("k", 2)]) (N := ["error", "at", "k"]) (sc := defScope s_law_of_one_kind) (by decide +kernel)) (fun _ _ _ _ _ => (pg_name (i := 2) S.nd rfl (.inl rfl))) (fun _ _ _ _ _ => pts_nil) (fun _ _ _ _ _ => (pe_cmpR op_eq (pv 2) (pv 1) (nomark _)))) (nomark _))))), ?_⟩
    refine ⟨_, rfl, a, _, d, _, _, _, rfl, ha, ⟨_, hd⟩, ic, .own _, TE.kM i hi, _, rfl, iteF ?_⟩
    refine ⟨_, rfl, a, _, d, _, _, _, rfl, ha, ⟨_, hd⟩, ic, .ty _, TE.kV i hi, _, rfl, iteF ?_⟩
    refine ⟨_, rfl, a, i, v, rfl, hi, ⟨d, ha, hd⟩, fun H1 p s1 hp => ?_⟩
    refine ⟨14, rfl, by decide, by decide, fun D nD => ?_⟩
    refine lc_range (lo := 0) (n := 14) (fun t H' => Same H1 H' ∧ H' D = some (.lst ((((List.range 14).map fun j => decide (i = j)).take t).map V.bl))) ⟨same_new nD, upd_same⟩ (fun t H2 ht hP => ?_) (fun H2 hP => ?_)
    · obtain ⟨sm, hD⟩ := hP
      refine ⟨rfl, yes_go ?_⟩
      refine ⟨_, rfl, _, rfl, rfl, _, hD, ?_, ?_, ?_⟩
      · rw [List.length_map, List.length_take, List.length_map, List.length_range]
        exact small1000 (by omega)
      · exact fun b o e => by
          rw [upd_ne (ne_of_none e nD)]
          exact sm _ _ e
      · have g : ((List.range 14).map fun j => decide (i = j))[t]? = some (decide (i = t)) := by
          rw [List.getElem?_map, List.getElem?_range ht]
          rfl
        have e : decide (V.int (0 + (t : Int)) = V.int ((i : Nat) : Int)) = decide (i = t) := by
          by_cases z : i = t
          · subst z
            rw [decide_eq_true rfl, Int.zero_add, decide_eq_true rfl]
          · rw [decide_eq_false z, decide_eq_false]
            intro y
            injection y with y
            omega
        rw [upd_same, e, List.take_add_one, g, List.map_append]
        rfl
    · obtain ⟨sm, hD⟩ := hP
      rw [List.take_of_length_le (by rw [List.length_map, List.length_range]; exact Nat.le_refl _)] at hD
      refine ⟨_, _, .lst (SqL.of (sm _ _ hp)) (dpAll_bls _), .lst (SqL.of hD) (dpAll_bls _), shaped_bls _, shaped_bls _, ?_⟩
      rw [eqv_bls]
      exact q _ (s1.trans sm)
abbrev s_law_made : Stmt := top 33
theorem sc_law_made : FnScope ["thing", "some"] ["thing"] (defScope s_law_made) := ⟨rfl, rfl, rfl, by decide +kernel, rfl, by decide +kernel, by decide +kernel⟩
theorem ok_law_made (T : Txt mg) (TE : Te P w K mg base cs CM) (p : Pl K mg "_law_made" s_law_made ["thing"] f fd) : Dfn P w K mg base 3 "_law_made" ["thing"] (spMade cs) := by
  have S := sc_law_made
  refine p.d (Fun_okG p.F S (fun vs H Q E h => ?_) (fun cdv A out s H vs Q E hgd hr h => ?_))
  · obtain ⟨v, rfl, _⟩ := h
    rfl
  · obtain ⟨v, rfl, q⟩ := h
    refine ⟨_, (pss_cons (ps_set (i := 1) S.nd rfl (.inl rfl) (pe_lst (pa_cons (pe_err (TE.er 0 (by decide)) (hr.mono (by decide)) (by rfl) (pa_cons (pv 0) pa_nil)) (pa_cons (pe_err (TE.er 1 (by decide)) (hr.mono (by decide)) (by rfl) (pa_cons (pv 0) pa_nil)) (pa_cons (pe_err (TE.er 2 (by decide)) (hr.mono (by decide)) (by rfl) (pa_cons (pv 0) pa_nil)) (pa_cons (pe_err (TE.er 3 (by decide)) (hr.mono (by decide)) (by rfl) (pa_cons (pv 0) pa_nil)) (pa_cons (pe_err (TE.er 4 (by decide)) (hr.mono (by decide)) (by rfl) (pa_cons (pv 0) pa_nil)) (pa_cons (pe_err (TE.er 5 (by decide)) (hr.mono (by decide)) (by rfl) (pa_cons (pv 0) pa_nil)) pa_nil))))))))
    (pss_cons (ps_set (i := 1) S.nd rfl (.inl rfl) (pe_op op_cat (pv 1) (pe_lst (pa_cons (pe_err (TE.er 6 (by decide)) (hr.mono (by decide)) (by rfl) (pa_cons (pv 0) pa_nil)) (pa_cons (pe_err (TE.er 7 (by decide)) (hr.mono (by decide)) (by rfl) (pa_cons (pv 0) pa_nil)) (pa_cons (pe_err (TE.er 8 (by decide)) (hr.mono (by decide)) (by rfl) (pa_cons (pv 0) pa_nil)) (pa_cons (pe_err (TE.er 9 (by decide)) (hr.mono (by decide)) (by rfl) (pa_cons (pv 0) pa_nil)) (pa_cons (pe_err (TE.er 10 (by decide)) (hr.mono (by decide)) (by rfl) (pa_cons (pv 0) pa_nil)) (pa_cons (pe_err (TE.er 11 (by decide)) (hr.mono (by decide)) (by rfl) (pa_cons (pv 0) pa_nil)) pa_nil)))))))))
    (pss_one (ps_ret (pe_op op_cat (pv 1) (pe_lst (pa_cons (pe_err (TE.er 12 (by decide)) (hr.mono (by decide)) (by rfl) (pa_cons (pv 0) pa_nil)) (pa_cons (pe_err (TE.er 13 (by decide)) (hr.mono (by decide)) (by rfl) (pa_cons (pv 0) pa_nil)) pa_nil)))))))), ?_⟩
    refine ⟨_, rfl, _, rfl, fun a0 H0 s0 e0 => ?_⟩
    refine ⟨_, rfl, _, rfl, fun a1 H1 s1 e1 => ?_⟩
    refine ⟨_, rfl, _, rfl, fun a2 H2 s2 e2 => ?_⟩
    refine ⟨_, rfl, _, rfl, fun a3 H3 s3 e3 => ?_⟩
    refine ⟨_, rfl, _, rfl, fun a4 H4 s4 e4 => ?_⟩
    refine ⟨_, rfl, _, rfl, fun a5 H5 s5 e5 => ?_⟩
    refine ⟨(by show 6 ≤ sizeLine; decide), fun m0 nm0 => ?_⟩
    have u0 := same_new (o := .lst [.ref a0, .ref a1, .ref a2, .ref a3, .ref a4, .ref a5]) nm0
    refine ⟨_, rfl, ?_⟩
    refine ⟨_, rfl, _, rfl, fun a6 H6 s6 e6 => ?_⟩
    refine ⟨_, rfl, _, rfl, fun a7 H7 s7 e7 => ?_⟩
    refine ⟨_, rfl, _, rfl, fun a8 H8 s8 e8 => ?_⟩
    refine ⟨_, rfl, _, rfl, fun a9 H9 s9 e9 => ?_⟩
    refine ⟨_, rfl, _, rfl, fun a10 H10 s10 e10 => ?_⟩
    refine ⟨_, rfl, _, rfl, fun a11 H11 s11 e11 => ?_⟩
    refine ⟨(by show 6 ≤ sizeLine; decide), fun m1 nm1 => ?_⟩
    have u1 := same_new (o := .lst [.ref a6, .ref a7, .ref a8, .ref a9, .ref a10, .ref a11]) nm1
    refine ⟨m0, m1, _, _, rfl, rfl, ((((((s6.trans s7).trans s8).trans s9).trans s10).trans s11).trans u1) _ _ upd_same, upd_same, (by show 6 + 6 ≤ sizeLine; decide), fun l1 nl1 => ?_⟩
    have v1 := same_new (o := .lst [.ref a0, .ref a1, .ref a2, .ref a3, .ref a4, .ref a5, .ref a6, .ref a7, .ref a8, .ref a9, .ref a10, .ref a11]) nl1
    refine ⟨_, rfl, ?_⟩
    refine ⟨_, rfl, _, rfl, fun a12 H12 s12 e12 => ?_⟩
    refine ⟨_, rfl, _, rfl, fun a13 H13 s13 e13 => ?_⟩
    refine ⟨(by show 2 ≤ sizeLine; decide), fun m2 nm2 => ?_⟩
    have u2 := same_new (o := .lst [.ref a12, .ref a13]) nm2
    refine ⟨l1, m2, _, _, rfl, rfl, ((s12.trans s13).trans u2) _ _ upd_same, upd_same, (by show 12 + 2 ≤ sizeLine; decide), fun l2 nl2 => ?_⟩
    have v2 := same_new (o := .lst [.ref a0, .ref a1, .ref a2, .ref a3, .ref a4, .ref a5, .ref a6, .ref a7, .ref a8, .ref a9, .ref a10, .ref a11, .ref a12, .ref a13]) nl2
    have r18 := v2
    have r17 := u2.trans r18
    have r16 := s13.trans r17
    have r15 := s12.trans r16
    have r14 := v1.trans r15
    have r13 := u1.trans r14
    have r12 := s11.trans r13
    have r11 := s10.trans r12
    have r10 := s9.trans r11
    have r9 := s8.trans r10
    have r8 := s7.trans r9
    have r7 := s6.trans r8
    have r6 := u0.trans r7
    have r5 := s5.trans r6
    have r4 := s4.trans r5
    have r3 := s3.trans r4
    have r2 := s2.trans r3
    have r1 := s1.trans r2
    have all := s0.trans r1
    refine q _ _ all (Same.free (((((((((((((((((s0.trans s1).trans s2).trans s3).trans s4).trans s5).trans u0).trans s6).trans s7).trans s8).trans s9).trans s10).trans s11).trans u1).trans v1).trans s12).trans s13).trans u2) nl2) ⟨[a0, a1, a2, a3, a4, a5, a6, a7, a8, a9, a10, a11, a12, a13], rfl, upd_same, ?_⟩
    intro i hi
    match i, hi with
    | 0, _ => exact e0.mono r1
    | 1, _ => exact e1.mono r2
    | 2, _ => exact e2.mono r3
    | 3, _ => exact e3.mono r4
    | 4, _ => exact e4.mono r5
    | 5, _ => exact e5.mono r6
    | 6, _ => exact e6.mono r8
    | 7, _ => exact e7.mono r9
    | 8, _ => exact e8.mono r10
    | 9, _ => exact e9.mono r11
    | 10, _ => exact e10.mono r12
    | 11, _ => exact e11.mono r13
    | 12, _ => exact e12.mono r16
    | 13, _ => exact e13.mono r17
abbrev s_law_named : Stmt := top 34
theorem sc_law_named : FnScope ["thing", "some"] ["thing"] (defScope s_law_named) := ⟨rfl, rfl, rfl, by decide +kernel, rfl, by decide +kernel, by decide +kernel⟩
theorem ok_law_named (T : Txt mg) (TE : Te P w K mg base cs CM) (p : Pl K mg "_law_named" s_law_named ["thing"] f fd) : Dfn P w K mg base 3 "_law_named" ["thing"] (spMade cs) := by
  have S := sc_law_named
  refine p.d (Fun_okG p.F S (fun vs H Q E h => ?_) (fun cdv A out s H vs Q E hgd hr h => ?_))
  · obtain ⟨v, rfl, _⟩ := h
    rfl
  · obtain ⟨v, rfl, q⟩ := h
    refine ⟨_, (pss_cons (ps_set (i := 1) S.nd rfl (.inl rfl) (pe_lst (pa_cons (pe_errK (TE.er 0 (by decide)) (hr.mono (by decide)) (by rfl) (pv 0)) (pa_cons (pe_errK (TE.er 1 (by decide)) (hr.mono (by decide)) (by rfl) (pv 0)) (pa_cons (pe_errK (TE.er 2 (by decide)) (hr.mono (by decide)) (by rfl) (pv 0)) (pa_cons (pe_errK (TE.er 3 (by decide)) (hr.mono (by decide)) (by rfl) (pv 0)) pa_nil))))))
    (pss_cons (ps_set (i := 1) S.nd rfl (.inl rfl) (pe_op op_cat (pv 1) (pe_lst (pa_cons (pe_errK (TE.er 4 (by decide)) (hr.mono (by decide)) (by rfl) (pv 0)) (pa_cons (pe_errK (TE.er 5 (by decide)) (hr.mono (by decide)) (by rfl) (pv 0)) (pa_cons (pe_errK (TE.er 6 (by decide)) (hr.mono (by decide)) (by rfl) (pv 0)) (pa_cons (pe_errK (TE.er 7 (by decide)) (hr.mono (by decide)) (by rfl) (pv 0)) pa_nil)))))))
    (pss_cons (ps_set (i := 1) S.nd rfl (.inl rfl) (pe_op op_cat (pv 1) (pe_lst (pa_cons (pe_errK (TE.er 8 (by decide)) (hr.mono (by decide)) (by rfl) (pv 0)) (pa_cons (pe_errK (TE.er 9 (by decide)) (hr.mono (by decide)) (by rfl) (pv 0)) (pa_cons (pe_errK (TE.er 10 (by decide)) (hr.mono (by decide)) (by rfl) (pv 0)) (pa_cons (pe_errK (TE.er 11 (by decide)) (hr.mono (by decide)) (by rfl) (pv 0)) pa_nil)))))))
    (pss_one (ps_ret (pe_op op_cat (pv 1) (pe_lst (pa_cons (pe_errK (TE.er 12 (by decide)) (hr.mono (by decide)) (by rfl) (pv 0)) (pa_cons (pe_errK (TE.er 13 (by decide)) (hr.mono (by decide)) (by rfl) (pv 0)) pa_nil))))))))), ?_⟩
    refine ⟨_, rfl, _, rfl, fun a0 H0 s0 e0 => ?_⟩
    refine ⟨_, rfl, _, rfl, fun a1 H1 s1 e1 => ?_⟩
    refine ⟨_, rfl, _, rfl, fun a2 H2 s2 e2 => ?_⟩
    refine ⟨_, rfl, _, rfl, fun a3 H3 s3 e3 => ?_⟩
    refine ⟨(by show 4 ≤ sizeLine; decide), fun m0 nm0 => ?_⟩
    have u0 := same_new (o := .lst [.ref a0, .ref a1, .ref a2, .ref a3]) nm0
    refine ⟨_, rfl, ?_⟩
    refine ⟨_, rfl, _, rfl, fun a4 H4 s4 e4 => ?_⟩
    refine ⟨_, rfl, _, rfl, fun a5 H5 s5 e5 => ?_⟩
    refine ⟨_, rfl, _, rfl, fun a6 H6 s6 e6 => ?_⟩
    refine ⟨_, rfl, _, rfl, fun a7 H7 s7 e7 => ?_⟩
    refine ⟨(by show 4 ≤ sizeLine; decide), fun m1 nm1 => ?_⟩
    have u1 := same_new (o := .lst [.ref a4, .ref a5, .ref a6, .ref a7]) nm1
    refine ⟨m0, m1, _, _, rfl, rfl, ((((s4.trans s5).trans s6).trans s7).trans u1) _ _ upd_same, upd_same, (by show 4 + 4 ≤ sizeLine; decide), fun l1 nl1 => ?_⟩
    have v1 := same_new (o := .lst [.ref a0, .ref a1, .ref a2, .ref a3, .ref a4, .ref a5, .ref a6, .ref a7]) nl1
    refine ⟨_, rfl, ?_⟩
    refine ⟨_, rfl, _, rfl, fun a8 H8 s8 e8 => ?_⟩
    refine ⟨_, rfl, _, rfl, fun a9 H9 s9 e9 => ?_⟩
    refine ⟨_, rfl, _, rfl, fun a10 H10 s10 e10 => ?_⟩
    refine ⟨_, rfl, _, rfl, fun a11 H11 s11 e11 => ?_⟩
    refine ⟨(by show 4 ≤ sizeLine; decide), fun m2 nm2 => ?_⟩
    have u2 := same_new (o := .lst [.ref a8, .ref a9, .ref a10, .ref a11]) nm2
    refine ⟨l1, m2, _, _, rfl, rfl, ((((s8.trans s9).trans s10).trans s11).trans u2) _ _ upd_same, upd_same, (by show 8 + 4 ≤ sizeLine; decide), fun l2 nl2 => ?_⟩
    have v2 := same_new (o := .lst [.ref a0, .ref a1, .ref a2, .ref a3, .ref a4, .ref a5, .ref a6, .ref a7, .ref a8, .ref a9, .ref a10, .ref a11]) nl2
    refine ⟨_, rfl, ?_⟩
    refine ⟨_, rfl, _, rfl, fun a12 H12 s12 e12 => ?_⟩
    refine ⟨_, rfl, _, rfl, fun a13 H13 s13 e13 => ?_⟩
    refine ⟨(by show 2 ≤ sizeLine; decide), fun m3 nm3 => ?_⟩
    have u3 := same_new (o := .lst [.ref a12, .ref a13]) nm3
    refine ⟨l2, m3, _, _, rfl, rfl, ((s12.trans s13).trans u3) _ _ upd_same, upd_same, (by show 12 + 2 ≤ sizeLine; decide), fun l3 nl3 => ?_⟩
    have v3 := same_new (o := .lst [.ref a0, .ref a1, .ref a2, .ref a3, .ref a4, .ref a5, .ref a6, .ref a7, .ref a8, .ref a9, .ref a10, .ref a11, .ref a12, .ref a13]) nl3
    have r20 := v3
    have r19 := u3.trans r20
    have r18 := s13.trans r19
    have r17 := s12.trans r18
    have r16 := v2.trans r17
    have r15 := u2.trans r16
    have r14 := s11.trans r15
    have r13 := s10.trans r14
    have r12 := s9.trans r13
    have r11 := s8.trans r12
    have r10 := v1.trans r11
    have r9 := u1.trans r10
    have r8 := s7.trans r9
    have r7 := s6.trans r8
    have r6 := s5.trans r7
    have r5 := s4.trans r6
    have r4 := u0.trans r5
    have r3 := s3.trans r4
    have r2 := s2.trans r3
    have r1 := s1.trans r2
    have all := s0.trans r1
    refine q _ _ all (Same.free (((((((((((((((((((s0.trans s1).trans s2).trans s3).trans u0).trans s4).trans s5).trans s6).trans s7).trans u1).trans v1).trans s8).trans s9).trans s10).trans s11).trans u2).trans v2).trans s12).trans s13).trans u3) nl3) ⟨[a0, a1, a2, a3, a4, a5, a6, a7, a8, a9, a10, a11, a12, a13], rfl, upd_same, ?_⟩
    intro i hi
    match i, hi with
    | 0, _ => exact e0.mono r1
    | 1, _ => exact e1.mono r2
    | 2, _ => exact e2.mono r3
    | 3, _ => exact e3.mono r4
    | 4, _ => exact e4.mono r6
    | 5, _ => exact e5.mono r7
    | 6, _ => exact e6.mono r8
    | 7, _ => exact e7.mono r9
    | 8, _ => exact e8.mono r12
    | 9, _ => exact e9.mono r13
    | 10, _ => exact e10.mono r14
    | 11, _ => exact e11.mono r15
    | 12, _ => exact e12.mono r18
    | 13, _ => exact e13.mono r19
theorem cut8 (as : List Addr) (h : as.length = 14) : cutV (as.map V.ref) none (some 8) = (as.take 8).map V.ref := by
  unfold cutV
  rw [HT.sIx_none, show HT.sIx (as.map V.ref).length (as.map V.ref).length (some 8) = min 8 (as.map V.ref).length from HT.sIx_nat _ _ 8, List.length_map, h]
  show List.take (8 - 0) (List.drop 0 (as.map V.ref)) = _
  rw [List.drop_zero, ← List.map_take]
theorem fn8 : ∀ i, i < 8 → FN i = "value" := by decide +kernel
abbrev s_law_kept : Stmt := top 35
theorem sc_law_kept : FnScope ["errors", "found", "error"] ["errors"] (defScope s_law_kept) := ⟨rfl, rfl, rfl, by decide +kernel, rfl, by decide +kernel, by decide +kernel⟩
theorem ok_law_kept (T : Txt mg) (TE : Te P w K mg base cs CM) (p : Pl K mg "_law_kept" s_law_kept ["errors"] f fd) : Dfn P w K mg base 1 "_law_kept" ["errors"] (spKept cs) := by
  have S := sc_law_kept
  refine p.d (Fun_okG p.F S (fun vs H Q E h => ?_) (fun cdv A out s H vs Q E hgd hr h => ?_))
  · obtain ⟨L, v, rfl, _⟩ := h
    rfl
  · obtain ⟨L, v, rfl, ⟨as, len, hL, hE⟩, q⟩ := h
    refine ⟨_, (pss_cons (ps_set (i := 1) S.nd rfl (.inl rfl) (pe_op op_cat (pe_lc (own := [("error", 2)]) rfl S.nd (pi_list (pe_slice sl_list (pv 0) po_none (po_some pe_int))) (blkOk_by (own := [("error", 2)]) (N := ["errors", "found", "error"]) (sc := defScope s_law_kept) (by decide +kernel)) (fun _ _ _ _ _ => (pg_name (i := 2) S.nd rfl (.inl rfl))) (fun _ _ _ _ _ => pts_nil) (fun _ _ _ _ _ => (pe_erf (K := K) rfl (pv 2)))) (pe_lst (pa_cons (pe_erf (K := K) rfl (pe_ix ix_list (pv 0) pe_int (fun _ _ => rfl))) (pa_cons (pe_erf (K := K) rfl (pe_ix ix_list (pv 0) pe_int (fun _ _ => rfl))) (pa_cons (pe_erf (K := K) rfl (pe_ix ix_list (pv 0) pe_int (fun _ _ => rfl))) pa_nil))))))
    (pss_one (ps_ret (pe_op op_cat (pv 1) (pe_lst (pa_cons (pe_erf (K := K) rfl (pe_ix ix_list (pv 0) pe_int (fun _ _ => rfl))) (pa_cons (pe_erf (K := K) rfl (pe_ix ix_list (pv 0) pe_int (fun _ _ => rfl))) (pa_cons (pe_erf (K := K) rfl (pe_ix ix_list (pv 0) pe_int (fun _ _ => rfl))) pa_nil)))))))), ?_⟩
    have at_ : ∀ i, i < 14 → (as.map V.ref)[i]? = some (V.ref (as.getD i 0)) := fun i hi => by
      have z : as[i]? = some (as.getD i 0) := by
        rw [List.getD_eq_getElem?_getD, List.getElem?_eq_getElem (by omega)]
        rfl
      rw [List.getElem?_map, z]
      rfl
    refine ⟨_, rfl, 8, rfl, L, _, rfl, SqL.of hL, fun p0 n0 => ?_⟩
    rw [cut8 as len]
    have s0 := same_new (o := .lst ((as.take 8).map V.ref)) n0
    have sq0 : SqL K (upd H p0 (.lst ((as.take 8).map V.ref))) p0 ((as.take 8).map V.ref) := SqL.of upd_same
    have l8 : ((as.take 8).map V.ref).length = 8 := by
      rw [List.length_map, List.length_take]
      omega
    refine ⟨p0, rfl, ⟨_, sq0⟩, fun D nD => ?_⟩
    refine lc_list (K := K) (a := p0) (xs := (as.take 8).map V.ref) (fun t H' => Same (upd H p0 (.lst ((as.take 8).map V.ref))) H' ∧ H' D = some (.lst (List.replicate t v))) ⟨same_new nD, upd_same⟩ (fun t H' _ hP => hP.1.seq sq0) (fun t x H1 hx hP => ?_) (fun H1 hP => ?_)
    · obtain ⟨sm, hD⟩ := hP
      have ht : t < 8 := by
        have z := (List.getElem?_eq_some_iff.mp hx).1
        omega
      have ex : x = V.ref (as.getD t 0) := by
        have z := at_ t (by omega)
        rw [List.getElem?_map, List.getElem?_take_of_lt ht, ← List.getElem?_map, z] at hx
        exact (Option.some.inj hx).symm
      subst ex
      refine ⟨rfl, yes_go ?_⟩
      have T8 := TE.er t (by omega)
      have E8 := hE t (by omega)
      rw [fn8 t ht] at T8 E8
      refine ⟨_, rfl, _, _, v, rfl, T8.ic, T8.no, (E8.mono s0).mono sm, _, hD, ?_, ?_, ?_⟩
      · rw [List.length_replicate]
        exact small1000 (by omega)
      · exact fun b o e => by
          rw [upd_ne (ne_of_none e nD)]
          exact sm _ _ e
      · rw [upd_same, List.replicate_succ']
    · obtain ⟨sm, hD⟩ := hP
      rw [l8] at hD
      have s1 := s0.trans sm
      have hE1 : ∀ i, i < 14 → ErrAt H1 (as.getD i 0) (cs i) (FN i) v := fun i hi => (hE i hi).mono s1
      have sq1 : SqL K H1 L (as.map V.ref) := SqL.of (s1 _ _ hL)
      refine ⟨_, rfl, L, _, _, _, rfl, rfl, sq1, atI_nat (j := 8) (at_ 8 (by decide)), _, _, v, rfl, (TE.er 8 (by decide)).ic, (TE.er 8 (by decide)).no, hE1 8 (by decide), ?_⟩
      refine ⟨_, rfl, L, _, _, _, rfl, rfl, sq1, atI_nat (j := 9) (at_ 9 (by decide)), _, _, v, rfl, (TE.er 9 (by decide)).ic, (TE.er 9 (by decide)).no, hE1 9 (by decide), ?_⟩
      refine ⟨_, rfl, L, _, _, _, rfl, rfl, sq1, atI_nat (j := 10) (at_ 10 (by decide)), _, _, v, rfl, (TE.er 10 (by decide)).ic, (TE.er 10 (by decide)).no, hE1 10 (by decide), ?_⟩
      refine ⟨(by show 3 ≤ sizeLine; decide), fun m0 k0 => ?_⟩
      have t0 := same_new (o := .lst [v, v, v]) k0
      refine ⟨D, m0, _, _, rfl, rfl, t0 _ _ hD, upd_same, (by show 8 + 3 ≤ sizeLine; decide), fun l1 n1 => ?_⟩
      have s2 := (s1.trans t0).trans (same_new (o := .lst (List.replicate 8 v ++ [v, v, v])) n1)
      refine ⟨_, rfl, ?_⟩
      have sq2 : SqL K _ L (as.map V.ref) := SqL.of (s2 _ _ hL)
      refine ⟨_, rfl, L, _, _, _, rfl, rfl, sq2, atI_nat (j := 11) (at_ 11 (by decide)), _, _, v, rfl, (TE.er 11 (by decide)).ic, (TE.er 11 (by decide)).no, (hE 11 (by decide)).mono s2, ?_⟩
      refine ⟨_, rfl, L, _, _, _, rfl, rfl, sq2, atI_nat (j := 12) (at_ 12 (by decide)), _, _, v, rfl, (TE.er 12 (by decide)).ic, (TE.er 12 (by decide)).no, (hE 12 (by decide)).mono s2, ?_⟩
      refine ⟨_, rfl, L, _, _, _, rfl, rfl, sq2, atI_nat (j := 13) (at_ 13 (by decide)), _, _, v, rfl, (TE.er 13 (by decide)).ic, (TE.er 13 (by decide)).no, (hE 13 (by decide)).mono s2, ?_⟩
      refine ⟨(by show 3 ≤ sizeLine; decide), fun m1 k1 => ?_⟩
      have t1 := same_new (o := .lst [v, v, v]) k1
      refine ⟨l1, m1, _, _, rfl, rfl, t1 _ _ upd_same, upd_same, (by show 11 + 3 ≤ sizeLine; decide), fun l2 n2 => ?_⟩
      exact q _ _ ((s2.trans t1).trans (same_new n2)) upd_same
end
end K2
set_option maxHeartbeats 8000000
namespace K2
open PySem PySem.Spec PyProof.Rows L2 Zk Zx
def all14 (d : PyData) : PyData := .list (List.replicate 14 d)
def okK (d : PyData) : Bool := (all14 d).showable && decide ((all14 d).shown.length ≤ 100000) && decide ((all14 d).depth ≤ 40) && (match d with | .str x => decide (x.length ≤ 1000) | _ => true)
structure OkK (d : PyData) : Prop where
  sh : (all14 d).showable = true
  sz : (all14 d).shown.length ≤ sizeLine
  dp : (all14 d).depth ≤ 40
  ok : okD d
theorem okK_of {d : PyData} (h : okK d = true) : OkK d := by
  unfold okK at h
  simp only [Bool.and_eq_true, decide_eq_true_eq] at h
  obtain ⟨⟨⟨h1, h2⟩, h3⟩, h5⟩ := h
  refine ⟨h1, Nat.le_trans h2 (by decide), h3, fun x e => ?_⟩
  subst e
  simpa using h5
def ANYS : List PyData := [.int 0, .int 1, .int (-1), .int (10 ^ (59 : Int).toNat), .bool true, .none, .str "", .str "a", .tuple [], .tuple [.int 0, .tuple [.int 1]], .list [], .list [.int 1], .dict [], .dict [(.str "a", .list [.int 1])]]
theorem anys_ok : ANYS.all okK = true := by decide +kernel
theorem ints_ok : ∀ n < 99, okK (.int ((n : Nat) : Int)) = true := by decide +kernel
theorem DxA.mem {H : Hp} : ∀ {vs : List V} {ds : List PyData} {v : V}, DxA H vs ds → v ∈ vs → ∃ d, d ∈ ds ∧ Dx H v d
  | _, _, _, .nil, h => by cases h
  | _, _, _, .cons h r, m => by
    rcases List.mem_cons.mp m with rfl | m
    · exact ⟨_, List.mem_cons_self, h⟩
    · obtain ⟨d, hd, x⟩ := DxA.mem r m
      exact ⟨d, List.mem_cons_of_mem _ hd, x⟩
def spAny : Sp := fun vs H Q _ => ∃ p, vs = [.ref p] ∧ WellAt H p ∧ ∀ H' v d, ExB p H H' → WellAt H' p → Dx (hid p H') v d → okK d = true → Q v H'
theorem hid_at {p a : Addr} {H : Hp} {o : HO} (n : p ≠ a) (h : H a = some o) : hid p H a = some o := by
  rw [hid_ne n.symm]
  exact h
theorem well_ne {H : Hp} {p a : Addr} (w : WellAt H p) (n : H a = none) : p ≠ a := by
  obtain ⟨_, _, e, _⟩ := w
  exact ne_of_none e n
theorem okd_str {x : Str} (h : x.length ≤ 1000) : okD (.str x) := fun y e => by
  cases e
  exact h
section
variable {P : Program} {w : World} {K : PySem.W.Frag} {mg : Str → Option Value} {base : Heap} {f : Addr} {fd : FuncData}
abbrev s_law_any : Stmt := top 30
theorem sc_law_any : FnScope ["well", "some"] ["well"] (defScope s_law_any) := ⟨rfl, rfl, rfl, by decide +kernel, rfl, by decide +kernel, by decide +kernel⟩
theorem ok_law_any (T : Txt mg) (p : Pl K mg "_law_any" s_law_any ["well"] f fd) (D_law_choose : Dfn P w K mg base 2 "_law_choose" ["well", "things"] (spChoose K)) (D_law_draw : Dfn P w K mg base 1 "_law_draw" ["well", "bound"] spDraw) : Dfn P w K mg base 3 "_law_any" ["well"] spAny := by
  have S := sc_law_any
  refine p.d (Fun_okG p.F S (fun vs H Q E h => ?_) (fun cdv A out s H vs Q E hgd hr h => ?_))
  · obtain ⟨p, rfl, _⟩ := h
    rfl
  · obtain ⟨p, rfl, hw, q⟩ := h
    refine ⟨_, (pss_cons (ps_set (i := 1) S.nd rfl (.inl rfl) (pe_lst (pa_cons pe_int (pa_cons pe_int (pa_cons (pe_un un_neg pe_int) (pa_cons (pe_op op_powG pe_int pe_int) (pa_cons pe_bl (pa_cons pe_non (pa_cons pe_str (pa_cons pe_str (pa_cons (pe_tup pa_nil) (pa_cons (pe_tup (pa_cons pe_int (pa_cons (pe_tup (pa_cons pe_int pa_nil)) pa_nil))) (pa_cons (pe_lst pa_nil) (pa_cons (pe_lst (pa_cons pe_int pa_nil)) (pa_cons pe_dnewK (pa_cons (pe_disp (pps_cons pe_str (pe_lst (pa_cons pe_int pa_nil)) pps_nil) (by rfl) (by rfl) (fun z => by cases z) (by decide)) pa_nil))))))))))))))))
    (pss_one (ps_ret (pd_call D_law_choose hgd (hr.mono (by decide)) (by rfl) (pa_cons (pv 0) (pa_cons (pe_op op_cat (pv 1) (pe_lst (pa_cons (pd_call D_law_draw hgd (hr.mono (by decide)) (by rfl) (pa_cons (pv 0) (pa_cons pe_int pa_nil))) pa_nil))) pa_nil)))))), ?_⟩
    have b10 : bits 10 ≤ 4 := bits_nn (by decide) (by decide)
    refine ⟨1, rfl, 10, 59, rfl, rfl, ⟨by decide, (by show (bits 10 : Int) * 59 ≤ 2 ^ 27; omega)⟩, ?_⟩
    refine ⟨Nat.zero_le _, fun t1 m1 => ?_⟩
    have p1 := well_ne hw m1
    have S1 := same_new (o := .tup []) m1
    have w1 := hw.same S1
    refine ⟨(by show 1 ≤ sizeLine; decide), fun t2 m2 => ⟨(by show 2 ≤ sizeLine; decide), fun t3 m3 => ?_⟩⟩
    have p2 := well_ne w1 m2
    have S2 := same_new (o := .tup [.int 1]) m2
    have w2 := w1.same S2
    have p3 := well_ne w2 m3
    have S3 := same_new (o := .tup [.int 0, .ref t2]) m3
    have w3 := w2.same S3
    refine ⟨Nat.zero_le _, fun l1 m4 => ?_⟩
    have p4 := well_ne w3 m4
    have S4 := same_new (o := .lst []) m4
    have w4 := w3.same S4
    refine ⟨(by show 1 ≤ sizeLine; decide), fun l2 m5 => ?_⟩
    have p5 := well_ne w4 m5
    have S5 := same_new (o := .lst [.int 1]) m5
    have w5 := w4.same S5
    refine fun d1 m6 => ?_
    have p6 := well_ne w5 m6
    have S6 := same_new (o := .dK []) m6
    have w6 := w5.same S6
    refine fun d2 m7 => ⟨(by show 1 ≤ sizeLine; decide), fun l3 m8 => ?_⟩
    have p7 := well_ne w6 m7
    have dl : d2 ≠ l3 := ne_of_none upd_same m8
    refine ⟨Eq.trans (upd_ne dl) upd_same, [(Sum.inr "a", .ref l3)], rfl, (by show 1 ≤ 15; decide), ?_⟩
    have em : mergeK [] [((Sum.inr "a" : Key), V.ref l3)] = [((Sum.inr "a" : Key), V.ref l3)] := rfl
    rw [em]
    have S7a := same_new (o := .dK []) m7
    have w7 := w6.same S7a
    have p8 := well_ne w7 m8
    have m8' := Same.free S7a m8
    have S7 : Same _ (upd (upd (upd _ d2 (.dK [])) l3 (.lst [.int 1])) d2 (.dK [((Sum.inr "a" : Key), V.ref l3)])) := fun b o e => by
      rw [upd_ne (ne_of_none e m7)]
      exact same_new m8 _ _ (S7a b o e)
    have w8 := w6.same S7
    refine ⟨(by show 14 ≤ sizeLine; decide), fun l4 m9 => ?_⟩
    have p9 := well_ne w8 m9
    have S8 := same_new (o := .lst [.int 0, .int 1, .int (-1), .int (10 ^ (59 : Int).toNat), .bl true, .non, .str "", .str "a", .ref t1, .ref t3, .ref l1, .ref l2, .ref d1, .ref d2]) m9
    have w9 := w8.same S8
    have T7 := S7.trans S8
    have T6 := S6.trans T7
    have T5 := S5.trans T6
    have T4 := S4.trans T5
    have T3 := S3.trans T4
    have T2 := S2.trans T3
    have all := S1.trans T2
    -- the draw
    refine ⟨_, rfl, _, rfl, _, rfl, p, 99, rfl, w9, by decide, by decide, fun H1 r e1 w10 r0 r1 => ?_⟩
    have at4 := e1 _ _ p9.symm upd_same
    refine ⟨(by show 1 ≤ sizeLine; decide), fun m0 n0 => ?_⟩
    have U0 := same_new (o := .lst [.int r]) n0
    have w11 := w10.same U0
    refine ⟨l4, m0, _, _, rfl, rfl, U0 _ _ at4, upd_same, (by show 14 + 1 ≤ sizeLine; decide), fun l5 n5 => ?_⟩
    have U1 := same_new (o := .lst [.int 0, .int 1, .int (-1), .int (10 ^ (59 : Int).toNat), .bl true, .non, .str "", .str "a", .ref t1, .ref t3, .ref l1, .ref l2, .ref d1, .ref d2, .int r]) n5
    have w12 := w11.same U1
    have U := U0.trans U1
    have back : ∀ {a : Addr} {o : HO}, p ≠ a → _ → hid p _ a = some o := fun {a o} n h => hid_at n (U _ _ (e1 a o n.symm h))
    have dx : DxA (hid p (upd _ l5 _)) _ (ANYS ++ [.int r]) :=
      .cons (.int _) (.cons (.int _) (.cons (.int _) (.cons (.int _) (.cons (.bl _) (.cons .non (.cons (.str _) (.cons (.str _)
      (.cons (.tup (.inl (back p1 (T2 _ _ upd_same))) .nil)
      (.cons (.tup (.inl (back p3 (T4 _ _ upd_same))) (.cons (.int _) (.cons (.tup (.inl (back p2 (T3 _ _ upd_same))) (.cons (.int _) .nil)) .nil)))
      (.cons (.lst (.inl (back p4 (T5 _ _ upd_same))) .nil)
      (.cons (.lst (.inl (back p5 (T6 _ _ upd_same))) (.cons (.int _) .nil))
      (.cons (.dic (.inl (back p6 (T7 _ _ upd_same))) .nil)
      (.cons (.dic (.inl (back p7 (S8 _ _ upd_same))) (.cons (k := Sum.inr "a") (.lst (.inl (back p8 (S8 _ _ (Eq.trans (upd_ne dl.symm) upd_same)))) (.cons (.int _) .nil)) .nil))
      (.cons (.int _) .nil))))))))))))))
    refine ⟨p, l5, _, rfl, w12, SqL.of upd_same, (fun z => by cases z), (by show 15 ≤ 1000000; decide), fun H' v e2 w' hv => ?_⟩
    obtain ⟨d, hdm, hdx⟩ := DxA.mem dx hv
    have good : okK d = true := by
      rcases List.mem_append.mp hdm with z | z
      · exact List.all_eq_true.mp anys_ok d z
      · rw [List.mem_singleton.mp z]
        obtain ⟨n, rfl⟩ : ∃ n : Nat, r = n := ⟨r.toNat, by omega⟩
        exact ints_ok n (by omega)
    exact q _ _ d ((((ExB.of all).trans e1).trans (ExB.of U)).trans e2) w' (hdx.mono e2.hid) good
end
end K2
set_option maxHeartbeats 8000000
namespace K2
open PySem PySem.Spec PyProof.Rows L2 Zk Zx
def spLaw (K : PySem.W.Frag) : Sp := fun vs H Q _ => ∃ (a : Addr) (ns : List Int), vs = [.ref a] ∧ SqL K H a (ns.map V.int) ∧ ns.length ≤ 63 ∧ (∀ z ∈ ns, bits z ≤ 1048576) ∧ ∀ H', Q (.bl true) H'
theorem keyV_mono {H H' : Hp} {k v : V} (h : KeyV H k v) (s : Same H H') : KeyV H' k v := by
  cases h with
  | str x e => exact .str x (s _ _ e)
  | int i => exact .int i
  | bl b => exact .bl b
theorem rep_dx {H : Hp} {v : V} {d : PyData} (h : Dx H v d) : ∀ n, DxA H (List.replicate n v) (List.replicate n d)
  | 0 => .nil
  | n + 1 => .cons h (rep_dx h n)
/-- what own and line hold behind the change -/
def dOwn (j : Nat) : PyData := .dict [(.str "a", .int 1), (.str "b", .int (0 + (j : Int)))]
def dLine (j : Nat) : PyData := .list [.int 1, .int (0 + (j : Int))]
theorem dOwn_ok : ∀ j < 4, okK (dOwn j) = true := by decide +kernel
theorem dLine_ok : ∀ j < 4, okK (dLine j) = true := by decide +kernel
theorem put_b (t : V) : putK [((Sum.inr "a" : Key), V.int 1)] (Sum.inr "b") t = [((Sum.inr "a" : Key), V.int 1), ((Sum.inr "b" : Key), t)] := rfl
theorem merge_b (t : V) : mergeK [] [((Sum.inr "a" : Key), V.int 1), ((Sum.inr "b" : Key), t)] = [((Sum.inr "a" : Key), V.int 1), ((Sum.inr "b" : Key), t)] := rfl
/-- a row: a list of errors, what they keep, and what is due -/
def RowAt (cs : Nat → Addr) (H : Hp) (r : V) : Prop := ∃ t L u v d, r = .ref t ∧ H t = some (.tup [.ref L, u]) ∧ ErrsAt cs H L v ∧ Dx H v d ∧ Dx H u d ∧ okK d = true
theorem RowAt.mono {cs : Nat → Addr} {H H' : Hp} {r : V} (s : Same H H') (x : RowAt cs H r) : RowAt cs H' r := by
  obtain ⟨t, L, u, v, d, e, h1, h2, h3, h4, h5⟩ := x
  exact ⟨t, L, u, v, d, e, s _ _ h1, h2.mono s, h3.mono s, h4.mono s, h5⟩
theorem no_false : inV (.bl false) (List.replicate 14 (V.bl true)) = false := by decide +kernel
theorem all_flat : (List.replicate 14 (V.bl true)).all flatV = true := by decide +kernel
/-- a pair of equal bools -/
def DuoAt (H : Hp) (r : V) : Prop := ∃ t b, r = .ref t ∧ H t = some (.tup [.bl b, .bl b])
theorem DuoAt.mono {H H' : Hp} {r : V} (s : Same H H') (x : DuoAt H r) : DuoAt H' r := by
  obtain ⟨t, b, e, h⟩ := x
  exact ⟨t, b, e, s _ _ h⟩
theorem bl_sh (b : Bool) : PyData.showable (.bool b) = true ∧ (PyData.shown (.bool b)).length ≤ sizeLine ∧ PyData.depth (.bool b) ≤ 40 := by cases b <;> decide +kernel
theorem pg_tupK {X : Cx} {K : PySem.W.Frag} {es : List Expr} {k n : Nat} {t : TGs} {pos : Pos} (hK : X.K = K) (hc : X.calm = true) (h : PGs X es t)
    (hn : (assignEach es X.env).length = n := by rfl) (hst : (assignEach es X.env).findIdx? (·.1) = none := by rfl) : PG X (.Tuple es k pos) (gTup K n t) := by
  subst hK
  exact pg_tup hc h hn hst
theorem ix_tupK {X : Cx} {K : PySem.W.Frag} (hK : X.K = K) : IxR X (rIxT K) := by
  subst hK
  exact ix_tup
theorem bef_ab : befV (.str "a") (.str "ab") = true := by decide +kernel
theorem DuoAt.exb {H H' : Hp} {r : V} {q : Addr} {l : List V} (d : DuoAt H r) (x : ExB q H H') (hq : H q = some (.lst l)) : DuoAt H' r := by
  obtain ⟨t, b, e, h⟩ := d
  exact ⟨t, b, e, x _ _ (ne_of h hq (fun z => by cases z)) h⟩
theorem iteFB {b : Bool} {A B : Prop} (hb : b = false) (h : B) : if b = true then A else B := by
  subst hb
  exact iteF h
section
variable {P : Program} {w : World} {K : PySem.W.Frag} {mg : Str → Option Value} {base : Heap} {f : Addr} {fd : FuncData} {cs : Nat → Addr} {CM : Addr}
abbrev s_law : Stmt := top 36
theorem sc_law : FnScope ["script", "start", "well", "turn", "one", "other", "own", "line", "some", "named", "held", "kept", "errors", "due", "at", "error", "thing", "duos", "duo"] ["script"] (defScope s_law) := ⟨rfl, rfl, rfl, by decide +kernel, rfl, by decide +kernel, by decide +kernel⟩
theorem ok_law (T : Txt mg) (SY : ∃ o, base.get? sysModules = some o) (F : Fun K "law" "law" s_law f fd) (D_is_name : Dfn P w K mg base 2 "is_name" ["value"] (spD nameD)) (D_is_text : Dfn P w K mg base 2 "is_text" ["value"] (spD textD)) (D_is_number : Dfn P w K mg base 1 "is_number" ["value"] (spD numD)) (D_is_flag : Dfn P w K mg base 1 "is_flag" ["value"] (spD flagD)) (D_value_key : Dfn P w K mg base 1 "value_key" ["value"] spKey) (D_law_well : Dfn P w K mg base 1 "_law_well" ["script", "start"] (spWell K)) (D_law_any : Dfn P w K mg base 3 "_law_any" ["well"] spAny) (D_law_made : Dfn P w K mg base 3 "_law_made" ["thing"] (spMade cs)) (D_law_named : Dfn P w K mg base 3 "_law_named" ["thing"] (spMade cs)) (D_law_kept : Dfn P w K mg base 1 "_law_kept" ["errors"] (spKept cs)) (D_law_of_one_kind : Dfn P w K mg base 2 "_law_of_one_kind" ["error", "at"] (spOne cs)) (K_is_name : Dkw P w K mg base 2 "is_name" "value" (spD nameD)) (K_is_text : Dkw P w K mg base 2 "is_text" "value" (spD textD)) (K_is_number : Dkw P w K mg base 1 "is_number" "value" (spD numD)) (K_is_flag : Dkw P w K mg base 1 "is_flag" "value" (spD flagD)) (K_value_key : Dkw P w K mg base 1 "value_key" "value" spKey) : GOk P w K mg base CX0 4 f fd ["script"] (spLaw K) := by
  have S := sc_law
  refine Fun_okG F S (fun vs H Q E h => ?_) (fun cdv A out s H vs Q E hgd hr h => ?_)
  · obtain ⟨a, ns, rfl, _⟩ := h
    rfl
  · obtain ⟨a, ns, rfl, hS, hlen, hb, q⟩ := h
    refine ⟨_, (pss_cons (ps_for PassesOwn.never rfl (pi_range1 (by rfl) T.b_range (pa_cons (pe_callB (call_max2 rfl) (by rfl) T.b_max (by decide +kernel) (pa_cons pe_int (pa_cons (pe_callB (call_min2 rfl) (by rfl) T.b_min (by decide +kernel) (pa_cons pe_int (pa_cons (pe_callB call_len_seq (by rfl) T.b_len (by decide +kernel) (pa_cons (pv 0) pa_nil)) pa_nil))) pa_nil))) pa_nil)) (pg_name (i := 1) S.nd rfl (.inl rfl))
      (pss_cons (ps_set (i := 2) S.nd rfl (.inl rfl) (pd_call D_law_well hgd (hr.mono (by decide)) (by rfl) (pa_cons (pv 0) (pa_cons (pv 1) pa_nil))))
      (pss_one (ps_for PassesOwn.never rfl (pi_range1 (by rfl) T.b_range (pa_cons pe_int pa_nil)) (pg_name (i := 3) S.nd rfl (.inl rfl))
        (pss_cons (ps_par (i := 4) (j := 5) (by rfl) S.nd rfl rfl (by decide) rfl rfl (pa_cons (pd_call D_law_any hgd (hr.mono (by decide)) (by rfl) (pa_cons (pv 2) pa_nil)) (pa_cons (pd_call D_law_any hgd (hr.mono (by decide)) (by rfl) (pa_cons (pv 2) pa_nil)) pa_nil)) (by rfl))
        (pss_cons (ps_par (i := 6) (j := 7) (by rfl) S.nd rfl rfl (by decide) rfl rfl (pa_cons (pe_disp (pps_cons pe_str pe_int pps_nil) (by rfl) (by rfl) (fun z => by cases z) (by decide)) (pa_cons (pe_lst (pa_cons pe_int pa_nil)) pa_nil)) (by rfl))
        (pss_cons (ps_par (i := 8) (j := 9) (by rfl) S.nd rfl rfl (by decide) rfl rfl (pa_cons (pd_call D_law_made hgd (hr.mono (by decide)) (by rfl) (pa_cons (pv 4) pa_nil)) (pa_cons (pd_call D_law_named hgd (hr.mono (by decide)) (by rfl) (pa_cons (pv 5) pa_nil)) pa_nil)) (by rfl))
        (pss_cons (ps_par (i := 10) (j := 11) (by rfl) S.nd rfl rfl (by decide) rfl rfl (pa_cons (pd_call D_law_made hgd (hr.mono (by decide)) (by rfl) (pa_cons (pv 6) pa_nil)) (pa_cons (pd_call D_law_made hgd (hr.mono (by decide)) (by rfl) (pa_cons (pv 7) pa_nil)) pa_nil)) (by rfl))
        (pss_cons (ps_dput (hu_of hr) (pv 6) pe_str (pv 3) rfl)
        (pss_cons (ps_expr (pe_bm PySem.F.plainAttrs_list PySem.F.slot_list_append PySem.F.type_list_append mt_append (pv 7) (pa_cons (pv 3) pa_nil)))
        (pss_cons (ps_for PassesOwn.never rfl (pi_list (pe_lst (pa_cons (pe_tup (pa_cons (pv 8) (pa_cons (pv 4) pa_nil))) (pa_cons (pe_tup (pa_cons (pv 9) (pa_cons (pv 5) pa_nil))) (pa_cons (pe_tup (pa_cons (pv 10) (pa_cons (pe_disp (pps_cons pe_str pe_int (pps_cons pe_str (pv 3) pps_nil)) (by rfl) (by rfl) (fun z => by cases z) (by decide)) pa_nil))) (pa_cons (pe_tup (pa_cons (pv 11) (pa_cons (pe_lst (pa_cons pe_int (pa_cons (pv 3) pa_nil))) pa_nil))) pa_nil)))))) (pg_tup (by rfl) (pgs_cons (pg_name (i := 12) S.nd rfl (.inl rfl)) (pgs_cons (pg_name (i := 13) S.nd rfl (.inl rfl)) pgs_nil)))
          (pss_cons (ps_if (pt_cmpR op_ne (pe_callB (call_repr (S := True) (fun _ => SY) hgd hr.units) (by rfl) T.b_repr (by decide +kernel) (pa_cons (pd_call D_law_kept hgd (hr.mono (by decide)) (by rfl) (pa_cons (pv 12) pa_nil)) pa_nil)) (pe_callB (call_repr (S := True) (fun _ => SY) hgd hr.units) (by rfl) T.b_repr (by decide +kernel) (pa_cons (pe_op op_rep (pe_lst (pa_cons (pv 13) pa_nil)) pe_int) pa_nil)) (nomark _))
            (pss_one (ps_ret pe_bl))
            pss_nil)
          (pss_one (ps_if (pt_cmpR op_in_seq pe_bl (pe_lc (own := [("at", 14), ("error", 15)]) rfl S.nd (pi_enum (by rfl) T.b_enumerate (pa_cons (pv 12) pa_nil)) (blkOk_by (own := [("at", 14), ("error", 15)]) (N := ["script", "start", "well", "turn", "one", "other", "own", "line", "some", "named", "held", "kept", "errors", "due", "at", "error", "thing", "duos", "duo"]) (sc := defScope s_law) (by decide +kernel)) (fun _ _ _ _ _ => (pg_tupK (K := K) (n := 2) rfl (by rfl) (pgs_cons (pg_name (i := 14) S.nd rfl (.inl rfl)) (pgs_cons (pg_name (i := 15) S.nd rfl (.inl rfl)) pgs_nil)))) (fun _ _ _ _ _ => pts_nil) (fun _ _ _ _ _ => (pd_call D_law_of_one_kind hgd (hr.mono (by decide)) (by rfl) (pa_cons (pv 15) (pa_cons (pv 14) pa_nil))))) (by with_unfolding_all rfl))
            (pss_one (ps_ret pe_bl))
            pss_nil))))
        (pss_cons (ps_set (i := 16) S.nd rfl (.inl rfl) (pd_call D_law_any hgd (hr.mono (by decide)) (by rfl) (pa_cons (pv 2) pa_nil)))
        (pss_cons (ps_set (i := 17) S.nd rfl (.inl rfl) (pe_lst (pa_cons (pe_tup (pa_cons (pd_call D_is_name hgd (hr.mono (by decide)) (by rfl) (pa_cons (pv 16) pa_nil)) (pa_cons (pd_callK K_is_name hgd (hr.mono (by decide)) (by rfl) (pv 16)) pa_nil))) (pa_cons (pe_tup (pa_cons (pd_call D_is_text hgd (hr.mono (by decide)) (by rfl) (pa_cons (pv 16) pa_nil)) (pa_cons (pd_callK K_is_text hgd (hr.mono (by decide)) (by rfl) (pv 16)) pa_nil))) pa_nil))))
        (pss_cons (ps_set (i := 17) S.nd rfl (.inl rfl) (pe_op op_cat (pv 17) (pe_lst (pa_cons (pe_tup (pa_cons (pd_call D_is_number hgd (hr.mono (by decide)) (by rfl) (pa_cons (pv 16) pa_nil)) (pa_cons (pd_callK K_is_number hgd (hr.mono (by decide)) (by rfl) (pv 16)) pa_nil))) (pa_cons (pe_tup (pa_cons (pd_call D_is_flag hgd (hr.mono (by decide)) (by rfl) (pa_cons (pv 16) pa_nil)) (pa_cons (pd_callK K_is_flag hgd (hr.mono (by decide)) (by rfl) (pv 16)) pa_nil))) pa_nil)))))
        (pss_cons (ps_expr (pe_bm PySem.F.plainAttrs_list PySem.F.slot_list_append PySem.F.type_list_append mt_append (pv 17) (pa_cons (pe_tup (pa_cons (pe_cmpR (op_ltK hr.units0) (pd_call D_value_key hgd (hr.mono (by decide)) (by rfl) (pa_cons pe_str pa_nil)) (pd_callK K_value_key hgd (hr.mono (by decide)) (by rfl) pe_str) (nomark _)) (pa_cons pe_bl pa_nil))) pa_nil)))
        (pss_one (ps_if (pt_cmpR (op_neD hr.units) (pe_lc (own := [("duo", 18)]) rfl S.nd (pi_list (pv 17)) (blkOk_by (own := [("duo", 18)]) (N := ["script", "start", "well", "turn", "one", "other", "own", "line", "some", "named", "held", "kept", "errors", "due", "at", "error", "thing", "duos", "duo"]) (sc := defScope s_law) (by decide +kernel)) (fun _ _ _ _ _ => (pg_name (i := 18) S.nd rfl (.inl rfl))) (fun _ _ _ _ _ => (pts_one (pt_cmpR op_ne (pe_callB (call_repr (S := True) (fun _ => SY) hgd hr.units) (by rfl) T.b_repr (by decide +kernel) (pa_cons (pe_ix (ix_tupK (K := K) rfl) (pv 18) pe_int (fun _ _ => rfl)) pa_nil)) (pe_callB (call_repr (S := True) (fun _ => SY) hgd hr.units) (by rfl) T.b_repr (by decide +kernel) (pa_cons (pe_ix (ix_tupK (K := K) rfl) (pv 18) pe_int (fun _ _ => rfl)) pa_nil)) (nomark _)))) (fun _ _ _ _ _ => (pv 18))) (pe_lst pa_nil) (nomark _))
          (pss_one (ps_ret pe_bl))
          pss_nil)))))))))))))))))
    (pss_one (ps_ret pe_bl))), ?_⟩
    refine ⟨_, rfl, a, _, rfl, .inl hS, _, _, rfl, _, _, rfl, _, rfl, ?_, ?_, ?_⟩
    · show -(2 ^ 62) ≤ (if (if ((ns.map V.int).length : Int) < 4 then ((ns.map V.int).length : Int) else 4) > 1 then (if ((ns.map V.int).length : Int) < 4 then ((ns.map V.int).length : Int) else 4) else 1)
      split <;> (try split) <;> omega
    · show (if (if ((ns.map V.int).length : Int) < 4 then ((ns.map V.int).length : Int) else 4) > 1 then (if ((ns.map V.int).length : Int) < 4 then ((ns.map V.int).length : Int) else 4) else 1) < 2 ^ 62
      split <;> (try split) <;> omega
    have top4 : (if (if ((ns.map V.int).length : Int) < 4 then ((ns.map V.int).length : Int) else 4) > 1 then (if ((ns.map V.int).length : Int) < 4 then ((ns.map V.int).length : Int) else 4) else 1) ≤ (4 : Int) := by
      split <;> (try split) <;> omega
    generalize (if (if ((ns.map V.int).length : Int) < 4 then ((ns.map V.int).length : Int) else 4) > 1 then (if ((ns.map V.int).length : Int) < 4 then ((ns.map V.int).length : Int) else 4) else 1) = top at top4
    refine for_range (lo := 0) (n := top.toNat) (fun i σ H' => Same H H' ∧ ∃ y_start y_well y_turn y_one y_other y_own y_line y_some y_named y_held y_kept y_errors y_due y_at y_error y_thing y_duos y_duo, σ = [some (.ref a), y_start, y_well, y_turn, y_one, y_other, y_own, y_line, y_some, y_named, y_held, y_kept, y_errors, y_due, y_at, y_error, y_thing, y_duos, y_duo]) ⟨Same.refl H, _, _, _, _, _, _, _, _, _, _, _, _, _, _, _, _, _, _, rfl⟩ (fun t σ H' ht hP => ?_) (fun σ H' hP => ?_)
    · obtain ⟨sm, y_start, y_well, y_turn, y_one, y_other, y_own, y_line, y_some, y_named, y_held, y_kept, y_errors, y_due, y_at, y_error, y_thing, y_duos, y_duo, rfl⟩ := hP
      refine ⟨_, rfl, _, rfl, a, ns, _, rfl, sm.seq hS, hlen, hb, by omega, by omega, fun H1 p s1 np w1 => ?_⟩
      have np0 : H p = none := Same.free sm np
      have sm1 := sm.trans s1
      refine ⟨4, rfl, by decide, by decide, for_range (lo := 0) (n := 4) (fun i σ H' => Same H H' ∧ WellAt H' p ∧ ∃ y_turn y_one y_other y_own y_line y_some y_named y_held y_kept y_errors y_due y_at y_error y_thing y_duos y_duo, σ = [some (.ref a), some (.int (0 + (t : Int))), some (.ref p), y_turn, y_one, y_other, y_own, y_line, y_some, y_named, y_held, y_kept, y_errors, y_due, y_at, y_error, y_thing, y_duos, y_duo]) ⟨sm1, w1, _, _, _, _, _, _, _, _, _, _, _, _, _, _, _, _, rfl⟩ (fun j σ H2 hj hP => ?_) (fun σ H2 hP => ?_)⟩
      · obtain ⟨sm2, w2, y_turn, y_one, y_other, y_own, y_line, y_some, y_named, y_held, y_kept, y_errors, y_due, y_at, y_error, y_thing, y_duos, y_duo, rfl⟩ := hP
        -- one, other
        refine ⟨_, rfl, p, rfl, w2, fun H3 v1 d1 e3 w3 hd1 ok1 => ⟨_, rfl, p, rfl, w3, fun H4 v2 d2 e4 w4 hd2 ok2 => ⟨_, _, rfl, ?_⟩⟩⟩
        have hd1' := hd1.mono e4.hid
        have sm4 := e4.same np0 (e3.same np0 sm2)
        -- own, line
        refine fun qo no => ⟨upd_same, [(Sum.inr "a", .int 1)], rfl, (by show 1 ≤ 15; decide), ?_⟩
        rw [upd_upd]
        have em : mergeK [] [((Sum.inr "a" : Key), V.int 1)] = [((Sum.inr "a" : Key), V.int 1)] := rfl
        rw [em]
        have po := well_ne w4 no
        have so := same_new (o := .dK [((Sum.inr "a" : Key), V.int 1)]) no
        refine ⟨(by show 1 ≤ sizeLine; decide), fun ql nl => ⟨_, _, rfl, ?_⟩⟩
        have pl := well_ne (w4.same so) nl
        have ol : qo ≠ ql := ne_of_none upd_same nl
        have sl := same_new (o := .lst [.int 1]) nl
        have s6 := so.trans sl
        have nl4 : H4 ql = none := Same.free so nl
        have o6 := sl _ _ (upd_same (H := H4) (a := qo) (o := .dK [((Sum.inr "a" : Key), V.int 1)]))
        have l6 := upd_same (H := upd H4 qo (.dK [((Sum.inr "a" : Key), V.int 1)])) (a := ql) (o := .lst [.int 1])
        generalize upd (upd H4 qo (.dK [((Sum.inr "a" : Key), V.int 1)])) ql (.lst [.int 1]) = H6 at s6 o6 l6 ⊢
        -- the errors
        refine ⟨_, rfl, v1, rfl, fun H7 L1 s7 n7 E1 => ⟨_, rfl, v2, rfl, fun H8 L2 s8 n8 E2 => ⟨_, _, rfl, ?_⟩⟩⟩
        refine ⟨_, rfl, .ref qo, rfl, fun H9 L3 s9 n9 E3 => ⟨_, rfl, .ref ql, rfl, fun H10 L4 s10 n10 E4 => ⟨_, _, rfl, ?_⟩⟩⟩
        have r9 := s10
        have r8 := s9.trans r9
        have r7 := s8.trans r8
        have r6 := s7.trans r7
        have r4 := s6.trans r6
        have o10 := r6 _ _ o6
        have l10 := r6 _ _ l6
        have oL1 : L1 ≠ qo := fun z => by
          rw [z, o6] at n7
          cases n7
        have lL1 : L1 ≠ ql := fun z => by
          rw [z, l6] at n7
          cases n7
        have oL2 : L2 ≠ qo := fun z => by
          rw [z, s7 _ _ o6] at n8
          cases n8
        have lL2 : L2 ≠ ql := fun z => by
          rw [z, s7 _ _ l6] at n8
          cases n8
        have oL3 : L3 ≠ qo := fun z => by
          rw [z, (s7.trans s8) _ _ o6] at n9
          cases n9
        have lL3 : L3 ≠ ql := fun z => by
          rw [z, (s7.trans s8) _ _ l6] at n9
          cases n9
        have oL4 : L4 ≠ qo := fun z => by
          rw [z, ((s7.trans s8).trans s9) _ _ o6] at n10
          cases n10
        have lL4 : L4 ≠ ql := fun z => by
          rw [z, ((s7.trans s8).trans s9) _ _ l6] at n10
          cases n10
        -- own and line are changed
        have pu : DPut H10 qo (.str "b") (.int (0 + (j : Int))) (upd H10 qo (.dK [((Sum.inr "a" : Key), V.int 1), ((Sum.inr "b" : Key), V.int (0 + (j : Int)))])) := by
          have z := DPut.k (k := Sum.inr "b") (v := .int (0 + (j : Int))) o10 (by show 1 < sizeLine; decide)
          rw [put_b] at z
          exact z
        refine ⟨_, rfl, _, rfl, qo, _, rfl, pu, ?_⟩
        have l11 : (upd H10 qo (.dK [((Sum.inr "a" : Key), V.int 1), ((Sum.inr "b" : Key), V.int (0 + (j : Int)))])) ql = some (.lst [.int 1]) := by
          rw [upd_ne ol.symm]
          exact l10
        refine ⟨_, rfl, .inl ⟨rfl, _, SqL.of l11⟩, _, rfl, ql, _, _, rfl, rfl, l11, (by show 1 < sizeLine; decide), ?_⟩
        have x1 : ExB qo H10 (upd H10 qo (.dK [((Sum.inr "a" : Key), V.int 1), ((Sum.inr "b" : Key), V.int (0 + (j : Int)))])) := ExB.put
        have x2 : ExB ql (upd H10 qo (.dK [((Sum.inr "a" : Key), V.int 1), ((Sum.inr "b" : Key), V.int (0 + (j : Int)))])) (upd (upd H10 qo (.dK [((Sum.inr "a" : Key), V.int 1), ((Sum.inr "b" : Key), V.int (0 + (j : Int)))])) ql (.lst [.int 1, .int (0 + (j : Int))])) := ExB.put
        have no0 : H qo = none := Same.free sm4 no
        have nl0 : H ql = none := Same.free sm4 nl4
        have hB : ∀ B : Hp, Same B H4 → B qo = none → B ql = none → Same B (upd (upd H10 qo (.dK [((Sum.inr "a" : Key), V.int 1), ((Sum.inr "b" : Key), V.int (0 + (j : Int)))])) ql (.lst [.int 1, .int (0 + (j : Int))])) := fun B sB b1 b2 => x2.same b2 (x1.same b1 (sB.trans r4))
        have sm12 := hB H sm4 no0 nl0
        have k1 : Dx (upd (upd H10 qo (.dK [((Sum.inr "a" : Key), V.int 1), ((Sum.inr "b" : Key), V.int (0 + (j : Int)))])) ql (.lst [.int 1, .int (0 + (j : Int))])) v1 d1 := hd1'.mono (hB _ hid_same (by rw [hid_ne po.symm]; exact no) (by rw [hid_ne pl.symm]; exact nl4))
        have k2 : Dx (upd (upd H10 qo (.dK [((Sum.inr "a" : Key), V.int 1), ((Sum.inr "b" : Key), V.int (0 + (j : Int)))])) ql (.lst [.int 1, .int (0 + (j : Int))])) v2 d2 := hd2.mono (hB _ hid_same (by rw [hid_ne po.symm]; exact no) (by rw [hid_ne pl.symm]; exact nl4))
        have two : ∀ {L : Addr} {v : V}, L ≠ qo → L ≠ ql → ErrsAt cs H10 L v → ErrsAt cs (upd (upd H10 qo (.dK [((Sum.inr "a" : Key), V.int 1), ((Sum.inr "b" : Key), V.int (0 + (j : Int)))])) ql (.lst [.int 1, .int (0 + (j : Int))])) L v := fun {L v} h1 h2 e =>
          ErrsAt.exb x2 l11 (fun φ z => by cases z) h2 (ErrsAt.exb x1 o10 (fun φ z => by cases z) h1 e)
        have F1 := two oL1 lL1 (E1.mono r7)
        have F2 := two oL2 lL2 (E2.mono r8)
        have F3 := two oL3 lL3 (E3.mono r9)
        have F4 := two oL4 lL4 E4
        have w12 : WellAt (upd (upd H10 qo (.dK [((Sum.inr "a" : Key), V.int 1), ((Sum.inr "b" : Key), V.int (0 + (j : Int)))])) ql (.lst [.int 1, .int (0 + (j : Int))])) p := by
          obtain ⟨dd, mm, e, r⟩ := w4.same r4
          exact ⟨dd, mm, x2 _ _ pl (x1 _ _ po e), r⟩
        have o12 : (upd (upd H10 qo (.dK [((Sum.inr "a" : Key), V.int 1), ((Sum.inr "b" : Key), V.int (0 + (j : Int)))])) ql (.lst [.int 1, .int (0 + (j : Int))])) qo = some (.dK [((Sum.inr "a" : Key), V.int 1), ((Sum.inr "b" : Key), V.int (0 + (j : Int)))]) := by
          rw [upd_ne ol]
          exact upd_same
        have l12 := upd_same (H := upd H10 qo (.dK [((Sum.inr "a" : Key), V.int 1), ((Sum.inr "b" : Key), V.int (0 + (j : Int)))])) (a := ql) (o := .lst [.int 1, .int (0 + (j : Int))])
        have k3 : Dx (upd (upd H10 qo (.dK [((Sum.inr "a" : Key), V.int 1), ((Sum.inr "b" : Key), V.int (0 + (j : Int)))])) ql (.lst [.int 1, .int (0 + (j : Int))])) (.ref qo) (dOwn j) := .dic (.inl o12) (.cons (k := Sum.inr "a") (.int _) (.cons (k := Sum.inr "b") (.int _) .nil))
        have k4 : Dx (upd (upd H10 qo (.dK [((Sum.inr "a" : Key), V.int 1), ((Sum.inr "b" : Key), V.int (0 + (j : Int)))])) ql (.lst [.int 1, .int (0 + (j : Int))])) (.ref ql) (dLine j) := .lst (.inl l12) (.cons (.int _) (.cons (.int _) .nil))
        clear x1 x2 hB two o12 l12 l11 l10 o10 pu
        rw [show ([V.int 1] ++ [V.int (0 + (j : Int))] : List V) = [V.int 1, V.int (0 + (j : Int))] from rfl]
        generalize upd (upd H10 qo (.dK [((Sum.inr "a" : Key), V.int 1), ((Sum.inr "b" : Key), V.int (0 + (j : Int)))])) ql (.lst [.int 1, .int (0 + (j : Int))]) = H12 at sm12 k1 k2 k3 k4 F1 F2 F3 F4 w12
        -- the rows
        refine ⟨_, rfl, _, rfl, (by show 2 ≤ sizeLine; decide), fun t1 m1 => ⟨_, rfl, _, rfl, (by show 2 ≤ sizeLine; decide), fun t2 m2 => ⟨_, rfl, fun qd md => ?_⟩⟩⟩
        refine ⟨_, rfl, upd_same, [(Sum.inr "a", .int 1), (Sum.inr "b", .int (0 + (j : Int)))], rfl, (by show 2 ≤ 15; decide), ?_⟩
        rw [upd_upd, merge_b]
        refine ⟨(by show 2 ≤ sizeLine; decide), fun t3 m3 => ⟨_, rfl, _, rfl, (by show 2 ≤ sizeLine; decide), fun qk mk => ⟨(by show 2 ≤ sizeLine; decide), fun t4 m4 => ⟨(by show 4 ≤ sizeLine; decide), fun tl ml => ?_⟩⟩⟩⟩
        have u1 := same_new (o := (.tup [.ref L1, v1])) m1
        have u2 := same_new (o := (.tup [.ref L2, v2])) m2
        have u3 := same_new (o := (.dK [((Sum.inr "a" : Key), V.int 1), ((Sum.inr "b" : Key), V.int (0 + (j : Int)))])) md
        have u4 := same_new (o := (.tup [.ref L3, .ref qd])) m3
        have u5 := same_new (o := (.lst [.int 1, .int (0 + (j : Int))])) mk
        have u6 := same_new (o := (.tup [.ref L4, .ref qk])) m4
        have u7 := same_new (o := (.lst [.ref t1, .ref t2, .ref t3, .ref t4])) ml
        have z6 := u6.trans u7
        have z5 := u5.trans z6
        have z4 := u4.trans z5
        have z3 := u3.trans z4
        have z2 := u2.trans z3
        have z1 : Same H12 (upd (upd (upd (upd (upd (upd (upd H12 t1 (.tup [.ref L1, v1])) t2 (.tup [.ref L2, v2])) qd (.dK [((Sum.inr "a" : Key), V.int 1), ((Sum.inr "b" : Key), V.int (0 + (j : Int)))])) t3 (.tup [.ref L3, .ref qd])) qk (.lst [.int 1, .int (0 + (j : Int))])) t4 (.tup [.ref L4, .ref qk])) tl (.lst [.ref t1, .ref t2, .ref t3, .ref t4])) := u1.trans z2
        have a1 : (upd (upd (upd (upd (upd (upd (upd H12 t1 (.tup [.ref L1, v1])) t2 (.tup [.ref L2, v2])) qd (.dK [((Sum.inr "a" : Key), V.int 1), ((Sum.inr "b" : Key), V.int (0 + (j : Int)))])) t3 (.tup [.ref L3, .ref qd])) qk (.lst [.int 1, .int (0 + (j : Int))])) t4 (.tup [.ref L4, .ref qk])) tl (.lst [.ref t1, .ref t2, .ref t3, .ref t4])) t1 = some (.tup [.ref L1, v1]) := z2 _ _ upd_same
        have a2 : (upd (upd (upd (upd (upd (upd (upd H12 t1 (.tup [.ref L1, v1])) t2 (.tup [.ref L2, v2])) qd (.dK [((Sum.inr "a" : Key), V.int 1), ((Sum.inr "b" : Key), V.int (0 + (j : Int)))])) t3 (.tup [.ref L3, .ref qd])) qk (.lst [.int 1, .int (0 + (j : Int))])) t4 (.tup [.ref L4, .ref qk])) tl (.lst [.ref t1, .ref t2, .ref t3, .ref t4])) t2 = some (.tup [.ref L2, v2]) := z3 _ _ upd_same
        have a3 : (upd (upd (upd (upd (upd (upd (upd H12 t1 (.tup [.ref L1, v1])) t2 (.tup [.ref L2, v2])) qd (.dK [((Sum.inr "a" : Key), V.int 1), ((Sum.inr "b" : Key), V.int (0 + (j : Int)))])) t3 (.tup [.ref L3, .ref qd])) qk (.lst [.int 1, .int (0 + (j : Int))])) t4 (.tup [.ref L4, .ref qk])) tl (.lst [.ref t1, .ref t2, .ref t3, .ref t4])) qd = some (.dK [((Sum.inr "a" : Key), V.int 1), ((Sum.inr "b" : Key), V.int (0 + (j : Int)))]) := z4 _ _ upd_same
        have a4 : (upd (upd (upd (upd (upd (upd (upd H12 t1 (.tup [.ref L1, v1])) t2 (.tup [.ref L2, v2])) qd (.dK [((Sum.inr "a" : Key), V.int 1), ((Sum.inr "b" : Key), V.int (0 + (j : Int)))])) t3 (.tup [.ref L3, .ref qd])) qk (.lst [.int 1, .int (0 + (j : Int))])) t4 (.tup [.ref L4, .ref qk])) tl (.lst [.ref t1, .ref t2, .ref t3, .ref t4])) t3 = some (.tup [.ref L3, .ref qd]) := z5 _ _ upd_same
        have a5 : (upd (upd (upd (upd (upd (upd (upd H12 t1 (.tup [.ref L1, v1])) t2 (.tup [.ref L2, v2])) qd (.dK [((Sum.inr "a" : Key), V.int 1), ((Sum.inr "b" : Key), V.int (0 + (j : Int)))])) t3 (.tup [.ref L3, .ref qd])) qk (.lst [.int 1, .int (0 + (j : Int))])) t4 (.tup [.ref L4, .ref qk])) tl (.lst [.ref t1, .ref t2, .ref t3, .ref t4])) qk = some (.lst [.int 1, .int (0 + (j : Int))]) := z6 _ _ upd_same
        have a6 : (upd (upd (upd (upd (upd (upd (upd H12 t1 (.tup [.ref L1, v1])) t2 (.tup [.ref L2, v2])) qd (.dK [((Sum.inr "a" : Key), V.int 1), ((Sum.inr "b" : Key), V.int (0 + (j : Int)))])) t3 (.tup [.ref L3, .ref qd])) qk (.lst [.int 1, .int (0 + (j : Int))])) t4 (.tup [.ref L4, .ref qk])) tl (.lst [.ref t1, .ref t2, .ref t3, .ref t4])) t4 = some (.tup [.ref L4, .ref qk]) := u7 _ _ upd_same
        have a8 : (upd (upd (upd (upd (upd (upd (upd H12 t1 (.tup [.ref L1, v1])) t2 (.tup [.ref L2, v2])) qd (.dK [((Sum.inr "a" : Key), V.int 1), ((Sum.inr "b" : Key), V.int (0 + (j : Int)))])) t3 (.tup [.ref L3, .ref qd])) qk (.lst [.int 1, .int (0 + (j : Int))])) t4 (.tup [.ref L4, .ref qk])) tl (.lst [.ref t1, .ref t2, .ref t3, .ref t4])) tl = some (.lst [.ref t1, .ref t2, .ref t3, .ref t4]) := upd_same
        clear u1 u2 u3 u4 u5 u6 u7 z2 z3 z4 z5 z6 m1 m2 m3 m4 mk md ml
        generalize (upd (upd (upd (upd (upd (upd (upd H12 t1 (.tup [.ref L1, v1])) t2 (.tup [.ref L2, v2])) qd (.dK [((Sum.inr "a" : Key), V.int 1), ((Sum.inr "b" : Key), V.int (0 + (j : Int)))])) t3 (.tup [.ref L3, .ref qd])) qk (.lst [.int 1, .int (0 + (j : Int))])) t4 (.tup [.ref L4, .ref qk])) tl (.lst [.ref t1, .ref t2, .ref t3, .ref t4])) = HG at z1 a1 a2 a3 a4 a5 a6 a8 ⊢
        have k3' : Dx HG (.ref qd) (dOwn j) := .dic (.inl a3) (.cons (k := Sum.inr "a") (.int _) (.cons (k := Sum.inr "b") (.int _) .nil))
        have k4' : Dx HG (.ref qk) (dLine j) := .lst (.inl a5) (.cons (.int _) (.cons (.int _) .nil))
        have rows : ∀ x ∈ [V.ref t1, V.ref t2, V.ref t3, V.ref t4], RowAt cs HG x := by
          intro x hx
          simp only [List.mem_cons, List.not_mem_nil, or_false] at hx
          rcases hx with rfl | rfl | rfl | rfl
          · exact ⟨t1, L1, v1, v1, d1, rfl, a1, F1.mono z1, k1.mono z1, k1.mono z1, ok1⟩
          · exact ⟨t2, L2, v2, v2, d2, rfl, a2, F2.mono z1, k2.mono z1, k2.mono z1, ok2⟩
          · exact ⟨t3, L3, .ref qd, .ref qo, dOwn j, rfl, a4, F3.mono z1, k3.mono z1, k3', dOwn_ok j hj⟩
          · exact ⟨t4, L4, .ref qk, .ref ql, dLine j, rfl, a6, F4.mono z1, k4.mono z1, k4', dLine_ok j hj⟩
        have smG := sm12.trans z1
        have wG := w12.same z1
        clear a1 a2 a3 a4 a5 a6 k1 k2 k3 k4 F1 F2 F3 F4 k3' k4' z1
        refine ⟨tl, rfl, ⟨_, SqL.of a8⟩, for_list (fun i σ H' => Same HG H' ∧ ∃ y_errors y_due, σ = [some (.ref a), some (.int (0 + (t : Int))), some (.ref p), some (.int (0 + (j : Int))), some v1, some v2, some (.ref qo), some (.ref ql), some (.ref L1), some (.ref L2), some (.ref L3), some (.ref L4), y_errors, y_due, y_at, y_error, y_thing, y_duos, y_duo]) ⟨Same.refl HG, _, _, rfl⟩ (fun i σ H' _ hP => SqL.of (hP.1 _ _ a8)) (fun i x σ H13 hx hP => ?_) (fun σ H13 hP => ?_)⟩
        · obtain ⟨sG, y_errors', y_due', rfl⟩ := hP
          obtain ⟨tt, L, u, v, d, rfl, ht, hE, hv, hu, hk⟩ := (rows x (List.mem_of_getElem? hx)).mono sG
          have KD := okK_of hk
          refine ⟨tt, [.ref L, u], rfl, SqT.of ht, rfl, .ref L, [u], rfl, u, [], rfl, rfl, ?_⟩
          refine ⟨_, rfl, L, v, rfl, hE, fun Hk pk sk ek => ?_⟩
          refine ⟨_, all14 d, rfl, .lst (.inl ek) (rep_dx (hv.mono sk) 14), KD.sh, KD.sz, KD.dp, (fun _ _ => trivial), ?_⟩
          refine ⟨_, rfl, (by show 1 ≤ sizeLine; decide), fun p1 n1 => ⟨p1, 14, [u], rfl, rfl, upd_same, (by decide), (by decide), (by show 1 * 14 ≤ sizeLine; decide), fun p2 n2 => ?_⟩⟩
          have b1 := same_new (o := .lst [u]) n1
          have b2 := same_new (o := .lst (List.replicate (14 : Int).toNat [u]).flatten) n2
          refine ⟨_, all14 d, rfl, .lst (.inl upd_same) (rep_dx (hu.mono ((sk.trans b1).trans b2)) 14), KD.sh, KD.sz, KD.dp, (fun _ _ => trivial), ?_⟩
          refine ⟨rfl, _, rfl, ?_⟩
          refine iteNS rfl ?_
          have sx := (sk.trans b1).trans b2
          generalize upd (upd Hk p1 (.lst [u])) p2 (.lst (List.replicate (14 : Int).toNat [u]).flatten) = H15 at sx ⊢
          obtain ⟨as, hl, hH, hE⟩ := hE.mono sx
          refine ⟨_, rfl, L, as.map V.ref, rfl, SqL.of hH, fun D nD => lc_it walk_enum (fun i H' => Same H15 H' ∧ H' D = some (.lst (List.replicate i (V.bl true)))) ⟨same_new nD, upd_same⟩ (fun i H' _ hP => SqL.of (hP.1 _ _ hH)) (fun i x H16 H17 hi hP y => ?_) (fun H16 hP => ?_)⟩
          · rw [List.length_map, hl] at hi
            obtain ⟨sm6, hD⟩ := hP
            obtain ⟨TT, x1, y1, rfl, nT, rfl, ex, ey⟩ := y
            obtain rfl : V.int ((i : Nat) : Int) = x1 := Option.some.inj ex
            have ey' : y1 = V.ref (as.getD i 0) := by
              replace ey : (as.map V.ref)[i]? = some y1 := ey
              rw [List.getElem?_map, List.getElem?_eq_getElem (by omega)] at ey
              rw [List.getD_eq_getElem?_getD, List.getElem?_eq_getElem (by omega)]
              exact (Option.some.inj ey).symm
            subst ey'
            have b3 := same_new (o := .tup [.int ((i : Nat) : Int), .ref (as.getD i 0)]) nT
            have dT : D ≠ TT := ne_of_none hD nT
            refine ⟨TT, _, rfl, SqT.of upd_same, rfl, _, _, rfl, _, _, rfl, rfl, rfl, yes_go ?_⟩
            refine ⟨_, rfl, _, rfl, as.getD i 0, i, v, rfl, hi, (hE i hi).mono (sm6.trans b3), fun H18 s18 => ?_⟩
            have hD8 : H18 D = some (.lst (List.replicate i (V.bl true))) := s18 _ _ (b3 _ _ hD)
            refine ⟨_, hD8, ?_, ?_, ?_⟩
            · rw [List.length_replicate]
              exact small1000 (by omega)
            · exact ExB.put.same nD (sm6.trans (b3.trans s18))
            · rw [upd_same, ← List.replicate_succ']
          · obtain ⟨sm6, hD⟩ := hP
            rw [List.length_map, hl] at hD
            refine ⟨D, _, rfl, .inl (SqL.of hD), rfl, all_flat, _, rfl, ?_⟩
            refine iteFB no_false ?_
            exact ⟨sG.trans (sx.trans sm6), _, _, rfl⟩
        · obtain ⟨sG, y_errors', y_due', rfl⟩ := hP
          have smL := smG.trans sG
          refine ⟨_, rfl, p, rfl, wG.same sG, fun H30 v d e30 w30 hd30 ok30 => ?_⟩
          have KD := okK_of ok30
          have dv : Dx H30 v d := hd30.mono hid_same
          have smM := e30.same np0 smL
          refine ⟨_, rfl, v, d, rfl, dv, KD.ok, fun Ha sa => ⟨_, rfl, v, d, rfl, dv.mono sa, KD.ok, fun Hb sb => ⟨(by show 2 ≤ sizeLine; decide), fun c1 x1 => ?_⟩⟩⟩
          have b1 := same_new (o := .tup [.bl (nameD d), .bl (nameD d)]) x1
          have g1 : DuoAt (upd Hb c1 (.tup [.bl (nameD d), .bl (nameD d)])) (.ref c1) := ⟨c1, _, rfl, upd_same⟩
          have sC := (sa.trans sb).trans b1
          generalize upd Hb c1 (.tup [.bl (nameD d), .bl (nameD d)]) = HC1 at g1 sC ⊢
          have dv1 := dv.mono sC
          refine ⟨_, rfl, v, d, rfl, dv1, KD.ok, fun Hc sc => ⟨_, rfl, v, d, rfl, dv1.mono sc, KD.ok, fun Hd sd => ⟨(by show 2 ≤ sizeLine; decide), fun c2 x2 => ⟨(by show 2 ≤ sizeLine; decide), fun l1 n1 => ?_⟩⟩⟩⟩
          have b2 := same_new (o := .tup [.bl (textD d), .bl (textD d)]) x2
          have b3 := same_new (o := .lst [.ref c1, .ref c2]) n1
          have g2 : DuoAt (upd Hd c2 (.tup [.bl (textD d), .bl (textD d)])) (.ref c2) := ⟨c2, _, rfl, upd_same⟩
          have g2' := g2.mono b3
          have sD := (sc.trans sd).trans (b2.trans b3)
          have g1' := g1.mono sD
          have e1 : upd (upd Hd c2 (.tup [.bl (textD d), .bl (textD d)])) l1 (.lst [.ref c1, .ref c2]) l1 = some (.lst [.ref c1, .ref c2]) := upd_same
          clear b1 b2 b3 g1 g2 n1 x1 x2
          generalize upd (upd Hd c2 (.tup [.bl (textD d), .bl (textD d)])) l1 (.lst [.ref c1, .ref c2]) = HC2 at g1' g2' sD e1 ⊢
          have dv2 := dv1.mono sD
          have sm2 := (smM.trans sC).trans sD
          have w2' := (w30.same sC).same sD
          refine ⟨_, rfl, ?_⟩
          refine ⟨_, rfl, v, d, rfl, dv2, KD.ok, fun He se => ⟨_, rfl, v, d, rfl, dv2.mono se, KD.ok, fun Hf sf => ⟨(by show 2 ≤ sizeLine; decide), fun c3 x3 => ?_⟩⟩⟩
          have b1 := same_new (o := .tup [.bl (numD d), .bl (numD d)]) x3
          have g3 : DuoAt (upd Hf c3 (.tup [.bl (numD d), .bl (numD d)])) (.ref c3) := ⟨c3, _, rfl, upd_same⟩
          have sE := (se.trans sf).trans b1
          generalize upd Hf c3 (.tup [.bl (numD d), .bl (numD d)]) = HC3 at g3 sE ⊢
          have dv3 := dv2.mono sE
          refine ⟨_, rfl, v, d, rfl, dv3, KD.ok, fun Hg sg => ⟨_, rfl, v, d, rfl, dv3.mono sg, KD.ok, fun Hh sh => ⟨(by show 2 ≤ sizeLine; decide), fun c4 x4 => ⟨(by show 2 ≤ sizeLine; decide), fun l2 n2 => ?_⟩⟩⟩⟩
          have b2 := same_new (o := .tup [.bl (flagD d), .bl (flagD d)]) x4
          have b3 := same_new (o := .lst [.ref c3, .ref c4]) n2
          have g4 : DuoAt (upd Hh c4 (.tup [.bl (flagD d), .bl (flagD d)])) (.ref c4) := ⟨c4, _, rfl, upd_same⟩
          have g4' := g4.mono b3
          have sF := (sg.trans sh).trans (b2.trans b3)
          have g3' := g3.mono sF
          have e2 : upd (upd Hh c4 (.tup [.bl (flagD d), .bl (flagD d)])) l2 (.lst [.ref c3, .ref c4]) l2 = some (.lst [.ref c3, .ref c4]) := upd_same
          clear b1 b2 b3 g3 g4 n2 x3 x4
          generalize upd (upd Hh c4 (.tup [.bl (flagD d), .bl (flagD d)])) l2 (.lst [.ref c3, .ref c4]) = HC4 at g3' g4' sF e2 ⊢
          have sEF := sE.trans sF
          refine ⟨l1, l2, _, _, rfl, rfl, sEF _ _ e1, e2, (by show 2 + 2 ≤ sizeLine; decide), fun l3 n3 => ?_⟩
          have b4 := same_new (o := .lst [.ref c1, .ref c2, .ref c3, .ref c4]) n3
          have q1 := (g1'.mono sEF).mono b4
          have q2 := (g2'.mono sEF).mono b4
          have q3 := g3'.mono b4
          have q4 := g4'.mono b4
          have w3' := (w2'.same sEF).same b4
          have sm3 := sm2.trans sEF
          have nl3 : H l3 = none := Same.free sm3 n3
          have sm4' := sm3.trans b4
          have e3 : upd HC4 l3 (.lst [.ref c1, .ref c2, .ref c3, .ref c4]) l3 = some (.lst [.ref c1, .ref c2, .ref c3, .ref c4]) := upd_same
          clear b4 g1' g2' g3' g4' n3
          show _
          rw [show ([.ref c1, .ref c2] ++ [.ref c3, .ref c4] : List V) = [.ref c1, .ref c2, .ref c3, .ref c4] from rfl]
          generalize upd HC4 l3 (.lst [.ref c1, .ref c2, .ref c3, .ref c4]) = HC5 at q1 q2 q3 q4 w3' sm4' e3 ⊢
          refine ⟨_, rfl, .inl ⟨rfl, _, SqL.of e3⟩, ?_⟩
          refine ⟨_, rfl, .inl ⟨_, rfl, by decide⟩, fun Hi k1 si K1 => ⟨_, rfl, .inl ⟨_, rfl, by decide⟩, fun Hj k2 sj K2 => ⟨_, _, keyV_mono K1 sj, K2, trivial, ?_⟩⟩⟩
          refine ⟨(by show 2 ≤ sizeLine; decide), fun c5 x5 => ?_⟩
          have s5 := (si.trans sj).trans (same_new (o := .tup [.bl (befV (.str "a") (.str "ab")), .bl true]) x5)
          have e4 := s5 _ _ e3
          refine ⟨l3, _, _, rfl, rfl, e4, (by show 4 < sizeLine; decide), ?_⟩
          rw [show ([.ref c1, .ref c2, .ref c3, .ref c4] ++ [.ref c5] : List V) = [.ref c1, .ref c2, .ref c3, .ref c4, .ref c5] from rfl]
          have g5 : DuoAt (upd Hj c5 (.tup [.bl (befV (.str "a") (.str "ab")), .bl true])) (.ref c5) := ⟨c5, true, rfl, by rw [bef_ab]; exact upd_same⟩
          have xz : ExB l3 (upd Hj c5 (.tup [.bl (befV (.str "a") (.str "ab")), .bl true])) (upd (upd Hj c5 (.tup [.bl (befV (.str "a") (.str "ab")), .bl true])) l3 (.lst [.ref c1, .ref c2, .ref c3, .ref c4, .ref c5])) := ExB.put
          have y1 := (q1.mono s5).exb xz e4
          have y2 := (q2.mono s5).exb xz e4
          have y3 := (q3.mono s5).exb xz e4
          have y4 := (q4.mono s5).exb xz e4
          have y5 := g5.exb xz e4
          have pz : p ≠ l3 := ((w3'.same s5).ne e4 (fun _ z => by cases z)).symm
          have wz : WellAt (upd (upd Hj c5 (.tup [.bl (befV (.str "a") (.str "ab")), .bl true])) l3 (.lst [.ref c1, .ref c2, .ref c3, .ref c4, .ref c5])) p := by
            obtain ⟨dd, mm, e, r⟩ := w3'.same s5
            exact ⟨dd, mm, xz _ _ pz e, r⟩
          have smz : Same H (upd (upd Hj c5 (.tup [.bl (befV (.str "a") (.str "ab")), .bl true])) l3 (.lst [.ref c1, .ref c2, .ref c3, .ref c4, .ref c5])) := xz.same nl3 (sm4'.trans s5)
          have ez : (upd (upd Hj c5 (.tup [.bl (befV (.str "a") (.str "ab")), .bl true])) l3 (.lst [.ref c1, .ref c2, .ref c3, .ref c4, .ref c5])) l3 = some (.lst [.ref c1, .ref c2, .ref c3, .ref c4, .ref c5]) := upd_same
          clear xz g5 e4 s5 x5
          generalize (upd (upd Hj c5 (.tup [.bl (befV (.str "a") (.str "ab")), .bl true])) l3 (.lst [.ref c1, .ref c2, .ref c3, .ref c4, .ref c5])) = HZ at y1 y2 y3 y4 y5 wz smz ez ⊢
          have duos : ∀ x ∈ [V.ref c1, V.ref c2, V.ref c3, V.ref c4, V.ref c5], DuoAt HZ x := by
            intro x hx
            simp only [List.mem_cons, List.not_mem_nil, or_false] at hx
            rcases hx with rfl | rfl | rfl | rfl | rfl <;> assumption
          refine ⟨_, rfl, l3, rfl, ⟨_, SqL.of ez⟩, fun D nD => lc_list (fun i H' => Same HZ H' ∧ H' D = some (.lst [])) ⟨same_new nD, upd_same⟩ (fun i H' _ hP => SqL.of (hP.1 _ _ ez)) (fun i x H16 hx hP => ?_) (fun H16 hP => ?_)⟩
          · obtain ⟨sm6, hD⟩ := hP
            obtain ⟨tt, b, rfl, ht⟩ := (duos x (List.mem_of_getElem? hx)).mono sm6
            have B := bl_sh b
            refine ⟨rfl, ?_⟩
            refine ⟨_, rfl, tt, _, 0, .bl b, rfl, rfl, SqT.of ht, rfl, _, .bool b, rfl, .bl b, B.1, B.2.1, B.2.2, (fun _ _ => trivial), ?_⟩
            refine ⟨_, rfl, tt, _, 1, .bl b, rfl, rfl, SqT.of ht, rfl, _, .bool b, rfl, .bl b, B.1, B.2.1, B.2.2, (fun _ _ => trivial), ?_⟩
            refine ⟨rfl, _, rfl, ?_⟩
            refine iteNS rfl ?_
            exact ⟨sm6, hD⟩
          · obtain ⟨sm6, hD⟩ := hP
            refine ⟨(by show 0 ≤ sizeLine; decide), fun pe ne => ⟨.list [], .list [], .lst (SqL.of ((same_new ne) _ _ hD)) .nil, .lst (SqL.of upd_same) .nil, (by decide +kernel), (by decide +kernel), _, rfl, ?_⟩⟩
            refine iteFB (by decide +kernel) ?_
            have sl := sm6.trans (same_new (o := .lst []) ne)
            exact ⟨smz.trans sl, wz.same sl, _, _, _, _, _, _, _, _, _, _, _, _, _, _, _, _, rfl⟩
      · obtain ⟨sm2, w2, y_turn, y_one, y_other, y_own, y_line, y_some, y_named, y_held, y_kept, y_errors, y_due, y_at, y_error, y_thing, y_duos, y_duo, rfl⟩ := hP
        exact ⟨sm2, _, _, _, _, _, _, _, _, _, _, _, _, _, _, _, _, _, _, rfl⟩
    · exact q _
end
end K2
set_option maxHeartbeats 8000000
namespace K2
open PySem PySem.Spec PyProof.Rows L2 Zk Zx
section
variable {P : Program} {w : World} {K : PySem.W.Frag} {mg : Str → Option Value} {base : Heap}
abbrev tl5 (CM : Addr) : List Value := [.ref CM, .type "ValueError", .type "Exception", .type "BaseException", .type "object"]
structure Xl (K : PySem.W.Frag) (C CM : Addr) : Prop where
  cls : ∃ nm q N bs sn sub ab col dd k0 k1 k2 k3 k5, K.lookup C = some (excClassObj nm q C N bs (tl5 CM) true sn sub ab col dd k0 k1 k2 k3 k5 "ValueError.__new__")
theorem Xl.at_ {C CM : Addr} (x : Xl K C CM) : ∃ cd, PySem.W.clsIn K C = some cd ∧ cd.mro = .ref C :: tl5 CM ∧ cd.hasDict = true := by
  obtain ⟨nm, q, N, bs, sn, sub, ab, col, dd, k0, k1, k2, k3, k5, h⟩ := x.cls
  refine ⟨_, by unfold PySem.W.clsIn; rw [h], rfl, rfl⟩
theorem Xl.mro {C CM : Addr} (x : Xl K C CM) (v : Value) : PySem.W.mroIn K C v = some ((Value.ref C :: tl5 CM).contains v) := by
  obtain ⟨cd, h, e, _⟩ := x.at_
  unfold PySem.W.mroIn
  rw [h]
  show (if cd.mro.isEmpty then none else some (cd.mro.contains v)) = _
  rw [e]
  rfl
theorem Xl.hd {C CM : Addr} (x : Xl K C CM) : PySem.W.hasDictIn K C = true := by
  obtain ⟨cd, h, _, e⟩ := x.at_
  unfold PySem.W.hasDictIn
  rw [h]
  exact e
theorem Xl.has {C CM : Addr} (x : Xl K C CM) {v : Value} (hv : v ∈ (Value.ref C :: tl5 CM)) : PySem.W.mroIn K C v = some true := by
  rw [x.mro, List.contains_iff_mem.mpr hv]
theorem Xl.kit {C CM D DM : Addr} (x : Xl K C CM) (y : Xl K D DM) (t : PySem.W.typeIn K (.ref D) = some (.type "type")) (h : D ≠ CM) : PySem.W.kitOne K (.ref C) (.ref D) = some (decide (C = D)) := by
  unfold PySem.W.kitOne
  by_cases e : C = D
  · subst e
    rw [if_pos (beq_self_eq_true _), decide_eq_true rfl]
  · have n : ¬ (Value.ref C == Value.ref D) = true := fun z => e (Value.ref.inj (beq_iff_eq.mp z))
    rw [if_neg n, decide_eq_false e]
    obtain ⟨cd, hc, _, _⟩ := y.at_
    show (if ((PySem.W.clsIn K D).isSome && PySem.W.typeIn K (.ref D) == some (.type "type")) = true then PySem.W.mroIn K C (.ref D) else none) = _
    have bb : ((PySem.W.clsIn K D).isSome && PySem.W.typeIn K (.ref D) == some (.type "type")) = true := by
      rw [hc, t]
      simp
    rw [if_pos bb, x.mro]
    have m : ¬ (Value.ref C :: tl5 CM).contains (.ref D) = true := fun z => by
      have z := List.contains_iff_mem.mp z
      simp only [tl5, List.mem_cons, List.not_mem_nil, or_false, Value.ref.injEq, reduceCtorEq] at z
      rcases z with z | z
      · exact e z.symm
      · exact h z
    rw [Bool.eq_false_iff.mpr m]
theorem Xl.kitM {C CM : Addr} (x : Xl K C CM) (c : PySem.W.isClsIn K CM = true) (t : PySem.W.typeIn K (.ref CM) = some (.type "type")) : PySem.W.kitOne K (.ref C) (.ref CM) = some true := by
  unfold PySem.W.kitOne
  by_cases e : (Value.ref C == Value.ref CM) = true
  · rw [if_pos e]
  · rw [if_neg e]
    have c' : (PySem.W.clsIn K CM).isSome = true := c
    show (if ((PySem.W.clsIn K CM).isSome && PySem.W.typeIn K (.ref CM) == some (.type "type")) = true then PySem.W.mroIn K C (.ref CM) else none) = _
    have bb : ((PySem.W.clsIn K CM).isSome && PySem.W.typeIn K (.ref CM) == some (.type "type")) = true := by
      rw [c', t]
      simp
    rw [if_pos bb]
    exact x.has (List.mem_cons_of_mem _ List.mem_cons_self)
theorem Xl.kitV {C CM : Addr} (x : Xl K C CM) : PySem.W.kitOne K (.ref C) (.type "ValueError") = some true := by
  unfold PySem.W.kitOne
  have n : ¬ (Value.ref C == Value.type "ValueError") = true := fun z => by
    have z := beq_iff_eq.mp z
    cases z
  rw [if_neg n]
  show (if PySem.W.kitMeta "ValueError" = true then PySem.W.mroIn K C (.type "ValueError") else none) = _
  rw [if_pos (by decide +kernel)]
  exact x.has (List.mem_cons_of_mem _ (List.mem_cons_of_mem _ List.mem_cons_self))
theorem Xl.bas {C CM : Addr} (x : Xl K C CM) : PySem.W.mroIn K C (.type "BaseException") = some true :=
  x.has (List.mem_cons_of_mem _ (List.mem_cons_of_mem _ (List.mem_cons_of_mem _ (List.mem_cons_of_mem _ List.mem_cons_self))))
theorem Xl.obj {C CM : Addr} (x : Xl K C CM) : PySem.W.mroIn K C (.type "object") = some true :=
  x.has (List.mem_cons_of_mem _ (List.mem_cons_of_mem _ (List.mem_cons_of_mem _ (List.mem_cons_of_mem _ (List.mem_cons_of_mem _ List.mem_cons_self)))))
theorem Xl.oex {C CM : Addr} (x : Xl K C CM) (sa : PySem.W.findIn K (.ref C) "__setattr__" = some (some (.builtin "object.__setattr__"))) (t : PySem.W.typeIn K (.ref C) = some (.type "type")) (k : PySem.W.keepIn K (.ref C) = true) : OexC K C := by
  have b := x.bas
  obtain ⟨nm, q, N, bs, sn, sub, ab, col, dd, k0, k1, k2, k3, k5, h⟩ := x.cls
  exact ⟨⟨nm, q, N, bs, _, sn, sub, ab, col, dd, k0, k1, k2, k3, k5, h, by rfl⟩, sa, b, t, k⟩
theorem Xl.exc {C CM : Addr} (x : Xl K C CM) (hg : PySem.W.findIn K (.ref C) "__getattribute__" = some (some (.builtin "BaseException.__getattribute__"))) (hk : PySem.W.findIn K (.ref C) "__getattr__" = some none)
    (ha : PySem.W.findIn K (.ref C) "__class__" = some (some (.builtin "object.__class__"))) (hn : PySem.W.specialIn K (.builtin "object.__class__") "__get__" = some (some (.builtin "getset_descriptor.__get__"))) (ht : PySem.W.takesIn K (.builtin "object.__class__") = some true) : ExcC K C :=
  ⟨hg, hk, x.bas, x.hd, ha, hn, ht, x.obj⟩

abbrev s_ini0 : Stmt := inClass (top 2) 0
theorem sc_ini0 : FnScope ["self", "value"] ["self", "value"] (defScope s_ini0) := ⟨rfl, rfl, rfl, by decide +kernel, rfl, by decide +kernel, by decide +kernel⟩
theorem er_0 {C CM I : Addr} {fd : FuncData} (x : Xl K C CM) (O : OexC K C) (E : ExcC K C) (m : mg "BadSchema" = some (.ref C)) (no : PySem.W.findIn K (.ref C) "value" = some none) (iC : PySem.W.findIn K (.ref C) "__init__" = some (some (.ref I))) (tI : PySem.W.typeIn K (.ref I) = some (.type "function"))
    (F : Fun K "__init__" "BadSchema.__init__" s_ini0 I fd) (hb : ∀ (s : Shared) (x u : Value), BindsTo s fd ⟨[x], [("value", u)]⟩ [("self", x), ("value", u)]) : Er P w K mg base "BadSchema" C "value" := by
  have S := sc_ini0
  refine ⟨O, E, m, no, I, fd, iC, tI, F.ok S (fun vs H Q E h => ?_) (fun cdv A outer s H vs Q E hr h => ?_), F.binds (ps := ["self", "value"]) fun _ _ _ _ _ _ us hl => match us, hl with | [_, _], _ => rfl, hb⟩
  · obtain ⟨a, v, rfl, _⟩ := h
    rfl
  · obtain ⟨a, v, rfl, ha, q⟩ := h
    refine ⟨_, pss_one (ps_ost (pv 0) (pv 1)), ?_⟩
    exact ⟨_, rfl, _, rfl, a, C, rfl, O, no, .inl ⟨ha, q⟩⟩

abbrev s_ini1 : Stmt := inClass (top 3) 0
theorem sc_ini1 : FnScope ["self", "value"] ["self", "value"] (defScope s_ini1) := ⟨rfl, rfl, rfl, by decide +kernel, rfl, by decide +kernel, by decide +kernel⟩
theorem er_1 {C CM I : Addr} {fd : FuncData} (x : Xl K C CM) (O : OexC K C) (E : ExcC K C) (m : mg "BadPath" = some (.ref C)) (no : PySem.W.findIn K (.ref C) "value" = some none) (iC : PySem.W.findIn K (.ref C) "__init__" = some (some (.ref I))) (tI : PySem.W.typeIn K (.ref I) = some (.type "function"))
    (F : Fun K "__init__" "BadPath.__init__" s_ini1 I fd) (hb : ∀ (s : Shared) (x u : Value), BindsTo s fd ⟨[x], [("value", u)]⟩ [("self", x), ("value", u)]) : Er P w K mg base "BadPath" C "value" := by
  have S := sc_ini1
  refine ⟨O, E, m, no, I, fd, iC, tI, F.ok S (fun vs H Q E h => ?_) (fun cdv A outer s H vs Q E hr h => ?_), F.binds (ps := ["self", "value"]) fun _ _ _ _ _ _ us hl => match us, hl with | [_, _], _ => rfl, hb⟩
  · obtain ⟨a, v, rfl, _⟩ := h
    rfl
  · obtain ⟨a, v, rfl, ha, q⟩ := h
    refine ⟨_, pss_one (ps_ost (pv 0) (pv 1)), ?_⟩
    exact ⟨_, rfl, _, rfl, a, C, rfl, O, no, .inl ⟨ha, q⟩⟩

abbrev s_ini2 : Stmt := inClass (top 4) 0
theorem sc_ini2 : FnScope ["self", "value"] ["self", "value"] (defScope s_ini2) := ⟨rfl, rfl, rfl, by decide +kernel, rfl, by decide +kernel, by decide +kernel⟩
theorem er_2 {C CM I : Addr} {fd : FuncData} (x : Xl K C CM) (O : OexC K C) (E : ExcC K C) (m : mg "BadValue" = some (.ref C)) (no : PySem.W.findIn K (.ref C) "value" = some none) (iC : PySem.W.findIn K (.ref C) "__init__" = some (some (.ref I))) (tI : PySem.W.typeIn K (.ref I) = some (.type "function"))
    (F : Fun K "__init__" "BadValue.__init__" s_ini2 I fd) (hb : ∀ (s : Shared) (x u : Value), BindsTo s fd ⟨[x], [("value", u)]⟩ [("self", x), ("value", u)]) : Er P w K mg base "BadValue" C "value" := by
  have S := sc_ini2
  refine ⟨O, E, m, no, I, fd, iC, tI, F.ok S (fun vs H Q E h => ?_) (fun cdv A outer s H vs Q E hr h => ?_), F.binds (ps := ["self", "value"]) fun _ _ _ _ _ _ us hl => match us, hl with | [_, _], _ => rfl, hb⟩
  · obtain ⟨a, v, rfl, _⟩ := h
    rfl
  · obtain ⟨a, v, rfl, ha, q⟩ := h
    refine ⟨_, pss_one (ps_ost (pv 0) (pv 1)), ?_⟩
    exact ⟨_, rfl, _, rfl, a, C, rfl, O, no, .inl ⟨ha, q⟩⟩

abbrev s_ini3 : Stmt := inClass (top 5) 0
theorem sc_ini3 : FnScope ["self", "value"] ["self", "value"] (defScope s_ini3) := ⟨rfl, rfl, rfl, by decide +kernel, rfl, by decide +kernel, by decide +kernel⟩
theorem er_3 {C CM I : Addr} {fd : FuncData} (x : Xl K C CM) (O : OexC K C) (E : ExcC K C) (m : mg "BadPaper" = some (.ref C)) (no : PySem.W.findIn K (.ref C) "value" = some none) (iC : PySem.W.findIn K (.ref C) "__init__" = some (some (.ref I))) (tI : PySem.W.typeIn K (.ref I) = some (.type "function"))
    (F : Fun K "__init__" "BadPaper.__init__" s_ini3 I fd) (hb : ∀ (s : Shared) (x u : Value), BindsTo s fd ⟨[x], [("value", u)]⟩ [("self", x), ("value", u)]) : Er P w K mg base "BadPaper" C "value" := by
  have S := sc_ini3
  refine ⟨O, E, m, no, I, fd, iC, tI, F.ok S (fun vs H Q E h => ?_) (fun cdv A outer s H vs Q E hr h => ?_), F.binds (ps := ["self", "value"]) fun _ _ _ _ _ _ us hl => match us, hl with | [_, _], _ => rfl, hb⟩
  · obtain ⟨a, v, rfl, _⟩ := h
    rfl
  · obtain ⟨a, v, rfl, ha, q⟩ := h
    refine ⟨_, pss_one (ps_ost (pv 0) (pv 1)), ?_⟩
    exact ⟨_, rfl, _, rfl, a, C, rfl, O, no, .inl ⟨ha, q⟩⟩

abbrev s_ini4 : Stmt := inClass (top 6) 0
theorem sc_ini4 : FnScope ["self", "value"] ["self", "value"] (defScope s_ini4) := ⟨rfl, rfl, rfl, by decide +kernel, rfl, by decide +kernel, by decide +kernel⟩
theorem er_4 {C CM I : Addr} {fd : FuncData} (x : Xl K C CM) (O : OexC K C) (E : ExcC K C) (m : mg "BadStep" = some (.ref C)) (no : PySem.W.findIn K (.ref C) "value" = some none) (iC : PySem.W.findIn K (.ref C) "__init__" = some (some (.ref I))) (tI : PySem.W.typeIn K (.ref I) = some (.type "function"))
    (F : Fun K "__init__" "BadStep.__init__" s_ini4 I fd) (hb : ∀ (s : Shared) (x u : Value), BindsTo s fd ⟨[x], [("value", u)]⟩ [("self", x), ("value", u)]) : Er P w K mg base "BadStep" C "value" := by
  have S := sc_ini4
  refine ⟨O, E, m, no, I, fd, iC, tI, F.ok S (fun vs H Q E h => ?_) (fun cdv A outer s H vs Q E hr h => ?_), F.binds (ps := ["self", "value"]) fun _ _ _ _ _ _ us hl => match us, hl with | [_, _], _ => rfl, hb⟩
  · obtain ⟨a, v, rfl, _⟩ := h
    rfl
  · obtain ⟨a, v, rfl, ha, q⟩ := h
    refine ⟨_, pss_one (ps_ost (pv 0) (pv 1)), ?_⟩
    exact ⟨_, rfl, _, rfl, a, C, rfl, O, no, .inl ⟨ha, q⟩⟩

abbrev s_ini5 : Stmt := inClass (top 7) 0
theorem sc_ini5 : FnScope ["self", "value"] ["self", "value"] (defScope s_ini5) := ⟨rfl, rfl, rfl, by decide +kernel, rfl, by decide +kernel, by decide +kernel⟩
theorem er_5 {C CM I : Addr} {fd : FuncData} (x : Xl K C CM) (O : OexC K C) (E : ExcC K C) (m : mg "BadProgram" = some (.ref C)) (no : PySem.W.findIn K (.ref C) "value" = some none) (iC : PySem.W.findIn K (.ref C) "__init__" = some (some (.ref I))) (tI : PySem.W.typeIn K (.ref I) = some (.type "function"))
    (F : Fun K "__init__" "BadProgram.__init__" s_ini5 I fd) (hb : ∀ (s : Shared) (x u : Value), BindsTo s fd ⟨[x], [("value", u)]⟩ [("self", x), ("value", u)]) : Er P w K mg base "BadProgram" C "value" := by
  have S := sc_ini5
  refine ⟨O, E, m, no, I, fd, iC, tI, F.ok S (fun vs H Q E h => ?_) (fun cdv A outer s H vs Q E hr h => ?_), F.binds (ps := ["self", "value"]) fun _ _ _ _ _ _ us hl => match us, hl with | [_, _], _ => rfl, hb⟩
  · obtain ⟨a, v, rfl, _⟩ := h
    rfl
  · obtain ⟨a, v, rfl, ha, q⟩ := h
    refine ⟨_, pss_one (ps_ost (pv 0) (pv 1)), ?_⟩
    exact ⟨_, rfl, _, rfl, a, C, rfl, O, no, .inl ⟨ha, q⟩⟩

abbrev s_ini6 : Stmt := inClass (top 8) 0
theorem sc_ini6 : FnScope ["self", "value"] ["self", "value"] (defScope s_ini6) := ⟨rfl, rfl, rfl, by decide +kernel, rfl, by decide +kernel, by decide +kernel⟩
theorem er_6 {C CM I : Addr} {fd : FuncData} (x : Xl K C CM) (O : OexC K C) (E : ExcC K C) (m : mg "BadMask" = some (.ref C)) (no : PySem.W.findIn K (.ref C) "value" = some none) (iC : PySem.W.findIn K (.ref C) "__init__" = some (some (.ref I))) (tI : PySem.W.typeIn K (.ref I) = some (.type "function"))
    (F : Fun K "__init__" "BadMask.__init__" s_ini6 I fd) (hb : ∀ (s : Shared) (x u : Value), BindsTo s fd ⟨[x], [("value", u)]⟩ [("self", x), ("value", u)]) : Er P w K mg base "BadMask" C "value" := by
  have S := sc_ini6
  refine ⟨O, E, m, no, I, fd, iC, tI, F.ok S (fun vs H Q E h => ?_) (fun cdv A outer s H vs Q E hr h => ?_), F.binds (ps := ["self", "value"]) fun _ _ _ _ _ _ us hl => match us, hl with | [_, _], _ => rfl, hb⟩
  · obtain ⟨a, v, rfl, _⟩ := h
    rfl
  · obtain ⟨a, v, rfl, ha, q⟩ := h
    refine ⟨_, pss_one (ps_ost (pv 0) (pv 1)), ?_⟩
    exact ⟨_, rfl, _, rfl, a, C, rfl, O, no, .inl ⟨ha, q⟩⟩

abbrev s_ini7 : Stmt := inClass (top 9) 0
theorem sc_ini7 : FnScope ["self", "value"] ["self", "value"] (defScope s_ini7) := ⟨rfl, rfl, rfl, by decide +kernel, rfl, by decide +kernel, by decide +kernel⟩
theorem er_7 {C CM I : Addr} {fd : FuncData} (x : Xl K C CM) (O : OexC K C) (E : ExcC K C) (m : mg "BadText" = some (.ref C)) (no : PySem.W.findIn K (.ref C) "value" = some none) (iC : PySem.W.findIn K (.ref C) "__init__" = some (some (.ref I))) (tI : PySem.W.typeIn K (.ref I) = some (.type "function"))
    (F : Fun K "__init__" "BadText.__init__" s_ini7 I fd) (hb : ∀ (s : Shared) (x u : Value), BindsTo s fd ⟨[x], [("value", u)]⟩ [("self", x), ("value", u)]) : Er P w K mg base "BadText" C "value" := by
  have S := sc_ini7
  refine ⟨O, E, m, no, I, fd, iC, tI, F.ok S (fun vs H Q E h => ?_) (fun cdv A outer s H vs Q E hr h => ?_), F.binds (ps := ["self", "value"]) fun _ _ _ _ _ _ us hl => match us, hl with | [_, _], _ => rfl, hb⟩
  · obtain ⟨a, v, rfl, _⟩ := h
    rfl
  · obtain ⟨a, v, rfl, ha, q⟩ := h
    refine ⟨_, pss_one (ps_ost (pv 0) (pv 1)), ?_⟩
    exact ⟨_, rfl, _, rfl, a, C, rfl, O, no, .inl ⟨ha, q⟩⟩

abbrev s_ini8 : Stmt := inClass (top 10) 0
theorem sc_ini8 : FnScope ["self", "command"] ["self", "command"] (defScope s_ini8) := ⟨rfl, rfl, rfl, by decide +kernel, rfl, by decide +kernel, by decide +kernel⟩
theorem er_8 {C CM I : Addr} {fd : FuncData} (x : Xl K C CM) (O : OexC K C) (E : ExcC K C) (m : mg "BadCommand" = some (.ref C)) (no : PySem.W.findIn K (.ref C) "command" = some none) (iC : PySem.W.findIn K (.ref C) "__init__" = some (some (.ref I))) (tI : PySem.W.typeIn K (.ref I) = some (.type "function"))
    (F : Fun K "__init__" "BadCommand.__init__" s_ini8 I fd) (hb : ∀ (s : Shared) (x u : Value), BindsTo s fd ⟨[x], [("command", u)]⟩ [("self", x), ("command", u)]) : Er P w K mg base "BadCommand" C "command" := by
  have S := sc_ini8
  refine ⟨O, E, m, no, I, fd, iC, tI, F.ok S (fun vs H Q E h => ?_) (fun cdv A outer s H vs Q E hr h => ?_), F.binds (ps := ["self", "command"]) fun _ _ _ _ _ _ us hl => match us, hl with | [_, _], _ => rfl, hb⟩
  · obtain ⟨a, v, rfl, _⟩ := h
    rfl
  · obtain ⟨a, v, rfl, ha, q⟩ := h
    refine ⟨_, pss_one (ps_ost (pv 0) (pv 1)), ?_⟩
    exact ⟨_, rfl, _, rfl, a, C, rfl, O, no, .inl ⟨ha, q⟩⟩

abbrev s_ini9 : Stmt := inClass (top 11) 0
theorem sc_ini9 : FnScope ["self", "path"] ["self", "path"] (defScope s_ini9) := ⟨rfl, rfl, rfl, by decide +kernel, rfl, by decide +kernel, by decide +kernel⟩
theorem er_9 {C CM I : Addr} {fd : FuncData} (x : Xl K C CM) (O : OexC K C) (E : ExcC K C) (m : mg "Unset" = some (.ref C)) (no : PySem.W.findIn K (.ref C) "path" = some none) (iC : PySem.W.findIn K (.ref C) "__init__" = some (some (.ref I))) (tI : PySem.W.typeIn K (.ref I) = some (.type "function"))
    (F : Fun K "__init__" "Unset.__init__" s_ini9 I fd) (hb : ∀ (s : Shared) (x u : Value), BindsTo s fd ⟨[x], [("path", u)]⟩ [("self", x), ("path", u)]) : Er P w K mg base "Unset" C "path" := by
  have S := sc_ini9
  refine ⟨O, E, m, no, I, fd, iC, tI, F.ok S (fun vs H Q E h => ?_) (fun cdv A outer s H vs Q E hr h => ?_), F.binds (ps := ["self", "path"]) fun _ _ _ _ _ _ us hl => match us, hl with | [_, _], _ => rfl, hb⟩
  · obtain ⟨a, v, rfl, _⟩ := h
    rfl
  · obtain ⟨a, v, rfl, ha, q⟩ := h
    refine ⟨_, pss_one (ps_ost (pv 0) (pv 1)), ?_⟩
    exact ⟨_, rfl, _, rfl, a, C, rfl, O, no, .inl ⟨ha, q⟩⟩

abbrev s_ini10 : Stmt := inClass (top 12) 0
theorem sc_ini10 : FnScope ["self", "pair"] ["self", "pair"] (defScope s_ini10) := ⟨rfl, rfl, rfl, by decide +kernel, rfl, by decide +kernel, by decide +kernel⟩
theorem er_10 {C CM I : Addr} {fd : FuncData} (x : Xl K C CM) (O : OexC K C) (E : ExcC K C) (m : mg "Lost" = some (.ref C)) (no : PySem.W.findIn K (.ref C) "pair" = some none) (iC : PySem.W.findIn K (.ref C) "__init__" = some (some (.ref I))) (tI : PySem.W.typeIn K (.ref I) = some (.type "function"))
    (F : Fun K "__init__" "Lost.__init__" s_ini10 I fd) (hb : ∀ (s : Shared) (x u : Value), BindsTo s fd ⟨[x], [("pair", u)]⟩ [("self", x), ("pair", u)]) : Er P w K mg base "Lost" C "pair" := by
  have S := sc_ini10
  refine ⟨O, E, m, no, I, fd, iC, tI, F.ok S (fun vs H Q E h => ?_) (fun cdv A outer s H vs Q E hr h => ?_), F.binds (ps := ["self", "pair"]) fun _ _ _ _ _ _ us hl => match us, hl with | [_, _], _ => rfl, hb⟩
  · obtain ⟨a, v, rfl, _⟩ := h
    rfl
  · obtain ⟨a, v, rfl, ha, q⟩ := h
    refine ⟨_, pss_one (ps_ost (pv 0) (pv 1)), ?_⟩
    exact ⟨_, rfl, _, rfl, a, C, rfl, O, no, .inl ⟨ha, q⟩⟩

abbrev s_ini11 : Stmt := inClass (top 13) 0
theorem sc_ini11 : FnScope ["self", "number"] ["self", "number"] (defScope s_ini11) := ⟨rfl, rfl, rfl, by decide +kernel, rfl, by decide +kernel, by decide +kernel⟩
theorem er_11 {C CM I : Addr} {fd : FuncData} (x : Xl K C CM) (O : OexC K C) (E : ExcC K C) (m : mg "Refused" = some (.ref C)) (no : PySem.W.findIn K (.ref C) "number" = some none) (iC : PySem.W.findIn K (.ref C) "__init__" = some (some (.ref I))) (tI : PySem.W.typeIn K (.ref I) = some (.type "function"))
    (F : Fun K "__init__" "Refused.__init__" s_ini11 I fd) (hb : ∀ (s : Shared) (x u : Value), BindsTo s fd ⟨[x], [("number", u)]⟩ [("self", x), ("number", u)]) : Er P w K mg base "Refused" C "number" := by
  have S := sc_ini11
  refine ⟨O, E, m, no, I, fd, iC, tI, F.ok S (fun vs H Q E h => ?_) (fun cdv A outer s H vs Q E hr h => ?_), F.binds (ps := ["self", "number"]) fun _ _ _ _ _ _ us hl => match us, hl with | [_, _], _ => rfl, hb⟩
  · obtain ⟨a, v, rfl, _⟩ := h
    rfl
  · obtain ⟨a, v, rfl, ha, q⟩ := h
    refine ⟨_, pss_one (ps_ost (pv 0) (pv 1)), ?_⟩
    exact ⟨_, rfl, _, rfl, a, C, rfl, O, no, .inl ⟨ha, q⟩⟩

abbrev s_ini12 : Stmt := inClass (top 14) 0
theorem sc_ini12 : FnScope ["self", "number"] ["self", "number"] (defScope s_ini12) := ⟨rfl, rfl, rfl, by decide +kernel, rfl, by decide +kernel, by decide +kernel⟩
theorem er_12 {C CM I : Addr} {fd : FuncData} (x : Xl K C CM) (O : OexC K C) (E : ExcC K C) (m : mg "UnknownNumber" = some (.ref C)) (no : PySem.W.findIn K (.ref C) "number" = some none) (iC : PySem.W.findIn K (.ref C) "__init__" = some (some (.ref I))) (tI : PySem.W.typeIn K (.ref I) = some (.type "function"))
    (F : Fun K "__init__" "UnknownNumber.__init__" s_ini12 I fd) (hb : ∀ (s : Shared) (x u : Value), BindsTo s fd ⟨[x], [("number", u)]⟩ [("self", x), ("number", u)]) : Er P w K mg base "UnknownNumber" C "number" := by
  have S := sc_ini12
  refine ⟨O, E, m, no, I, fd, iC, tI, F.ok S (fun vs H Q E h => ?_) (fun cdv A outer s H vs Q E hr h => ?_), F.binds (ps := ["self", "number"]) fun _ _ _ _ _ _ us hl => match us, hl with | [_, _], _ => rfl, hb⟩
  · obtain ⟨a, v, rfl, _⟩ := h
    rfl
  · obtain ⟨a, v, rfl, ha, q⟩ := h
    refine ⟨_, pss_one (ps_ost (pv 0) (pv 1)), ?_⟩
    exact ⟨_, rfl, _, rfl, a, C, rfl, O, no, .inl ⟨ha, q⟩⟩

abbrev s_ini13 : Stmt := inClass (top 15) 0
theorem sc_ini13 : FnScope ["self", "many"] ["self", "many"] (defScope s_ini13) := ⟨rfl, rfl, rfl, by decide +kernel, rfl, by decide +kernel, by decide +kernel⟩
theorem er_13 {C CM I : Addr} {fd : FuncData} (x : Xl K C CM) (O : OexC K C) (E : ExcC K C) (m : mg "NothingToUndo" = some (.ref C)) (no : PySem.W.findIn K (.ref C) "many" = some none) (iC : PySem.W.findIn K (.ref C) "__init__" = some (some (.ref I))) (tI : PySem.W.typeIn K (.ref I) = some (.type "function"))
    (F : Fun K "__init__" "NothingToUndo.__init__" s_ini13 I fd) (hb : ∀ (s : Shared) (x u : Value), BindsTo s fd ⟨[x], [("many", u)]⟩ [("self", x), ("many", u)]) : Er P w K mg base "NothingToUndo" C "many" := by
  have S := sc_ini13
  refine ⟨O, E, m, no, I, fd, iC, tI, F.ok S (fun vs H Q E h => ?_) (fun cdv A outer s H vs Q E hr h => ?_), F.binds (ps := ["self", "many"]) fun _ _ _ _ _ _ us hl => match us, hl with | [_, _], _ => rfl, hb⟩
  · obtain ⟨a, v, rfl, _⟩ := h
    rfl
  · obtain ⟨a, v, rfl, ha, q⟩ := h
    refine ⟨_, pss_one (ps_ost (pv 0) (pv 1)), ?_⟩
    exact ⟨_, rfl, _, rfl, a, C, rfl, O, no, .inl ⟨ha, q⟩⟩

end
theorem getD_mem {l : List Addr} {i : Nat} (h : i < l.length) : l.getD i 0 ∈ l := by
  rw [List.getD_eq_getElem?_getD, List.getElem?_eq_getElem h]
  exact List.getElem_mem h
theorem getD_inj {l : List Addr} (n : l.Nodup) {i j : Nat} (hi : i < l.length) (hj : j < l.length) (e : l.getD i 0 = l.getD j 0) : i = j := by
  rw [List.getD_eq_getElem?_getD, List.getD_eq_getElem?_getD, List.getElem?_eq_getElem hi, List.getElem?_eq_getElem hj] at e
  have p := List.pairwise_iff_getElem.mp n
  rcases Nat.lt_trichotomy i j with h | h | h
  · exact absurd e (p i j hi hj h)
  · exact h
  · exact absurd e.symm (p j i hj hi h)
theorem kit_dec {K : PySem.W.Frag} {c d : Value} {C D : Addr} {i j : Nat} (h : C = D → i = j) (k : PySem.W.kitOne K c d = some (decide (C = D))) (hc : i = j → C = D := by intro z; rw [z]) : PySem.W.kitOne K c d = some (decide (i = j)) := by
  rw [k]
  by_cases z : i = j
  · rw [decide_eq_true z, decide_eq_true (hc z)]
  · rw [decide_eq_false z, decide_eq_false (fun y => z (h y))]
theorem all_mk {l : PySem.W.OpenLaw} {w : World} {K : PySem.W.Frag} {h : Heap} {mg : Str → Option Value} {fa : Addr} (X : K.In h) (G : h.Ns mainGlobals mg) (hfa : mg "law" = some (.ref fa))
    {f0 f1 f2 f3 f4 f5 f6 f7 f8 f9 f10 f11 f12 f13 f14 f15 : Addr} {od0 an0 od1 an1 od2 an2 od3 an3 od4 an4 od5 an5 od6 an6 od7 an7 od8 an8 od9 an9 od10 an10 od11 an11 od12 an12 od13 an13 od14 an14 od15 an15 : Option Addr} {sl0 sl1 sl2 sl3 sl4 sl5 sl6 sl7 sl8 sl9 sl10 sl11 sl12 sl13 sl14 sl15 : Array (Option Value)}
    {oc0 kV0 dc0 pm0 cd0 ct0 oc1 kV1 dc1 pm1 cd1 ct1 oc2 kV2 dc2 pm2 cd2 ct2 oc3 kV3 dc3 pm3 cd3 ct3 oc4 kV4 dc4 pm4 cd4 ct4 oc5 kV5 dc5 pm5 cd5 ct5 oc6 kV6 dc6 pm6 cd6 ct6 oc7 kV7 dc7 pm7 cd7 ct7 oc8 kV8 dc8 pm8 cd8 ct8 oc9 kV9 dc9 pm9 cd9 ct9 oc10 kV10 dc10 pm10 cd10 ct10 oc11 kV11 dc11 pm11 cd11 ct11 oc12 kV12 dc12 pm12 cd12 ct12 oc13 kV13 dc13 pm13 cd13 ct13 oc14 kV14 dc14 pm14 cd14 ct14 oc15 kV15 dc15 pm15 cd15 ct15 : Value}
    {tk0 tk1 tk2 : Tok}
    {CM : Addr}
    {C0 I0 N0 C1 I1 N1 C2 I2 N2 C3 I3 N3 C4 I4 N4 C5 I5 N5 C6 I6 N6 C7 I7 N7 C8 I8 N8 C9 I9 N9 C10 I10 N10 C11 I11 N11 C12 I12 N12 C13 I13 N13 : Addr}
    {nm0 qn0 nm1 qn1 nm2 qn2 nm3 qn3 nm4 qn4 nm5 qn5 nm6 qn6 nm7 qn7 nm8 qn8 nm9 qn9 nm10 qn10 nm11 qn11 nm12 qn12 nm13 qn13 : Str}
    {bs0 sub0 bs1 sub1 bs2 sub2 bs3 sub3 bs4 sub4 bs5 sub5 bs6 sub6 bs7 sub7 bs8 sub8 bs9 sub9 bs10 sub10 bs11 sub11 bs12 sub12 bs13 sub13 : List Value} {sn0 sn1 sn2 sn3 sn4 sn5 sn6 sn7 sn8 sn9 sn10 sn11 sn12 sn13 : List Str} {ab0 ab1 ab2 ab3 ab4 ab5 ab6 ab7 ab8 ab9 ab10 ab11 ab12 ab13 : Bool} {col0 col1 col2 col3 col4 col5 col6 col7 col8 col9 col10 col11 col12 col13 : Option Bool} {dd0 iod0 ian0 dd1 iod1 ian1 dd2 iod2 ian2 dd3 iod3 ian3 dd4 iod4 ian4 dd5 iod5 ian5 dd6 iod6 ian6 dd7 iod7 ian7 dd8 iod8 ian8 dd9 iod9 ian9 dd10 iod10 ian10 dd11 iod11 ian11 dd12 iod12 ian12 dd13 iod13 ian13 : Option Addr} {m0100 m1100 m2100 m3100 m5100 m0101 m1101 m2101 m3101 m5101 m0102 m1102 m2102 m3102 m5102 m0103 m1103 m2103 m3103 m5103 m0104 m1104 m2104 m3104 m5104 m0105 m1105 m2105 m3105 m5105 m0106 m1106 m2106 m3106 m5106 m0107 m1107 m2107 m3107 m5107 m0108 m1108 m2108 m3108 m5108 m0109 m1109 m2109 m3109 m5109 m0110 m1110 m2110 m3110 m5110 m0111 m1111 m2111 m3111 m5111 m0112 m1112 m2112 m3112 m5112 m0113 m1113 m2113 m3113 m5113 : Option Value}
    {ioc0 ikV0 idc0 ipm0 icd0 ict0 ioc1 ikV1 idc1 ipm1 icd1 ict1 ioc2 ikV2 idc2 ipm2 icd2 ict2 ioc3 ikV3 idc3 ipm3 icd3 ict3 ioc4 ikV4 idc4 ipm4 icd4 ict4 ioc5 ikV5 idc5 ipm5 icd5 ict5 ioc6 ikV6 idc6 ipm6 icd6 ict6 ioc7 ikV7 idc7 ipm7 icd7 ict7 ioc8 ikV8 idc8 ipm8 icd8 ict8 ioc9 ikV9 idc9 ipm9 icd9 ict9 ioc10 ikV10 idc10 ipm10 icd10 ict10 ioc11 ikV11 idc11 ipm11 icd11 ict11 ioc12 ikV12 idc12 ipm12 icd12 ict12 ioc13 ikV13 idc13 ipm13 icd13 ict13 : Value} {isl0 isl1 isl2 isl3 isl4 isl5 isl6 isl7 isl8 isl9 isl10 isl11 isl12 isl13 : Array (Option Value)}
    (a0 : PySem.W.nsIn K mainGlobals "is_name" = some (some (.ref f0)))
    (l0 : K.lookup f0 = some ⟨oc0, od0, .func (PySem.W.fnOf "is_name" "is_name" (defArgs s_is_name) (defBody s_is_name) (defScope s_is_name) .none kV0 dc0 pm0 an0 cd0 ct0), sl0⟩)
    (c0 : PySem.W.codeIn K cd0 "is_name" = true) (k0 : PySem.W.keepIn K (.ref f0) = true)
    (a1 : PySem.W.nsIn K mainGlobals "is_text" = some (some (.ref f1)))
    (l1 : K.lookup f1 = some ⟨oc1, od1, .func (PySem.W.fnOf "is_text" "is_text" (defArgs s_is_text) (defBody s_is_text) (defScope s_is_text) .none kV1 dc1 pm1 an1 cd1 ct1), sl1⟩)
    (c1 : PySem.W.codeIn K cd1 "is_text" = true) (k1 : PySem.W.keepIn K (.ref f1) = true)
    (a2 : PySem.W.nsIn K mainGlobals "is_number" = some (some (.ref f2)))
    (l2 : K.lookup f2 = some ⟨oc2, od2, .func (PySem.W.fnOf "is_number" "is_number" (defArgs s_is_number) (defBody s_is_number) (defScope s_is_number) .none kV2 dc2 pm2 an2 cd2 ct2), sl2⟩)
    (c2 : PySem.W.codeIn K cd2 "is_number" = true) (k2 : PySem.W.keepIn K (.ref f2) = true)
    (a3 : PySem.W.nsIn K mainGlobals "is_flag" = some (some (.ref f3)))
    (l3 : K.lookup f3 = some ⟨oc3, od3, .func (PySem.W.fnOf "is_flag" "is_flag" (defArgs s_is_flag) (defBody s_is_flag) (defScope s_is_flag) .none kV3 dc3 pm3 an3 cd3 ct3), sl3⟩)
    (c3 : PySem.W.codeIn K cd3 "is_flag" = true) (k3 : PySem.W.keepIn K (.ref f3) = true)
    (a4 : PySem.W.nsIn K mainGlobals "value_key" = some (some (.ref f4)))
    (l4 : K.lookup f4 = some ⟨oc4, od4, .func (PySem.W.fnOf "value_key" "value_key" (defArgs s_value_key) (defBody s_value_key) (defScope s_value_key) .none kV4 dc4 pm4 an4 cd4 ct4), sl4⟩)
    (c4 : PySem.W.codeIn K cd4 "value_key" = true) (k4 : PySem.W.keepIn K (.ref f4) = true)
    (a5 : PySem.W.nsIn K mainGlobals "is_letter_row" = some (some (.ref f5)))
    (l5 : K.lookup f5 = some ⟨oc5, od5, .func (PySem.W.fnOf "is_letter_row" "is_letter_row" (defArgs s_is_letter_row) (defBody s_is_letter_row) (defScope s_is_letter_row) .none kV5 dc5 pm5 an5 cd5 ct5), sl5⟩)
    (c5 : PySem.W.codeIn K cd5 "is_letter_row" = true) (k5 : PySem.W.keepIn K (.ref f5) = true)
    (a6 : PySem.W.nsIn K mainGlobals "_law_well" = some (some (.ref f6)))
    (l6 : K.lookup f6 = some ⟨oc6, od6, .func (PySem.W.fnOf "_law_well" "_law_well" (defArgs s_law_well) (defBody s_law_well) (defScope s_law_well) .none kV6 dc6 pm6 an6 cd6 ct6), sl6⟩)
    (c6 : PySem.W.codeIn K cd6 "_law_well" = true) (k6 : PySem.W.keepIn K (.ref f6) = true)
    (a7 : PySem.W.nsIn K mainGlobals "_law_draw" = some (some (.ref f7)))
    (l7 : K.lookup f7 = some ⟨oc7, od7, .func (PySem.W.fnOf "_law_draw" "_law_draw" (defArgs s_law_draw) (defBody s_law_draw) (defScope s_law_draw) .none kV7 dc7 pm7 an7 cd7 ct7), sl7⟩)
    (c7 : PySem.W.codeIn K cd7 "_law_draw" = true) (k7 : PySem.W.keepIn K (.ref f7) = true)
    (a8 : PySem.W.nsIn K mainGlobals "_law_choose" = some (some (.ref f8)))
    (l8 : K.lookup f8 = some ⟨oc8, od8, .func (PySem.W.fnOf "_law_choose" "_law_choose" (defArgs s_law_choose) (defBody s_law_choose) (defScope s_law_choose) .none kV8 dc8 pm8 an8 cd8 ct8), sl8⟩)
    (c8 : PySem.W.codeIn K cd8 "_law_choose" = true) (k8 : PySem.W.keepIn K (.ref f8) = true)
    (a9 : PySem.W.nsIn K mainGlobals "_law_any" = some (some (.ref f9)))
    (l9 : K.lookup f9 = some ⟨oc9, od9, .func (PySem.W.fnOf "_law_any" "_law_any" (defArgs s_law_any) (defBody s_law_any) (defScope s_law_any) .none kV9 dc9 pm9 an9 cd9 ct9), sl9⟩)
    (c9 : PySem.W.codeIn K cd9 "_law_any" = true) (k9 : PySem.W.keepIn K (.ref f9) = true)
    (a10 : PySem.W.nsIn K mainGlobals "_law_kinds" = some (some (.ref f10)))
    (l10 : K.lookup f10 = some ⟨oc10, od10, .func (PySem.W.fnOf "_law_kinds" "_law_kinds" (defArgs s_law_kinds) (defBody s_law_kinds) (defScope s_law_kinds) .none kV10 dc10 pm10 an10 cd10 ct10), sl10⟩)
    (c10 : PySem.W.codeIn K cd10 "_law_kinds" = true) (k10 : PySem.W.keepIn K (.ref f10) = true)
    (a11 : PySem.W.nsIn K mainGlobals "_law_of_one_kind" = some (some (.ref f11)))
    (l11 : K.lookup f11 = some ⟨oc11, od11, .func (PySem.W.fnOf "_law_of_one_kind" "_law_of_one_kind" (defArgs s_law_of_one_kind) (defBody s_law_of_one_kind) (defScope s_law_of_one_kind) .none kV11 dc11 pm11 an11 cd11 ct11), sl11⟩)
    (c11 : PySem.W.codeIn K cd11 "_law_of_one_kind" = true) (k11 : PySem.W.keepIn K (.ref f11) = true)
    (a12 : PySem.W.nsIn K mainGlobals "_law_made" = some (some (.ref f12)))
    (l12 : K.lookup f12 = some ⟨oc12, od12, .func (PySem.W.fnOf "_law_made" "_law_made" (defArgs s_law_made) (defBody s_law_made) (defScope s_law_made) .none kV12 dc12 pm12 an12 cd12 ct12), sl12⟩)
    (c12 : PySem.W.codeIn K cd12 "_law_made" = true) (k12 : PySem.W.keepIn K (.ref f12) = true)
    (a13 : PySem.W.nsIn K mainGlobals "_law_named" = some (some (.ref f13)))
    (l13 : K.lookup f13 = some ⟨oc13, od13, .func (PySem.W.fnOf "_law_named" "_law_named" (defArgs s_law_named) (defBody s_law_named) (defScope s_law_named) .none kV13 dc13 pm13 an13 cd13 ct13), sl13⟩)
    (c13 : PySem.W.codeIn K cd13 "_law_named" = true) (k13 : PySem.W.keepIn K (.ref f13) = true)
    (a14 : PySem.W.nsIn K mainGlobals "_law_kept" = some (some (.ref f14)))
    (l14 : K.lookup f14 = some ⟨oc14, od14, .func (PySem.W.fnOf "_law_kept" "_law_kept" (defArgs s_law_kept) (defBody s_law_kept) (defScope s_law_kept) .none kV14 dc14 pm14 an14 cd14 ct14), sl14⟩)
    (c14 : PySem.W.codeIn K cd14 "_law_kept" = true) (k14 : PySem.W.keepIn K (.ref f14) = true)
    (a15 : PySem.W.nsIn K mainGlobals "law" = some (some (.ref f15)))
    (l15 : K.lookup f15 = some ⟨oc15, od15, .func (PySem.W.fnOf "law" "law" (defArgs s_law) (defBody s_law) (defScope s_law) .none kV15 dc15 pm15 an15 cd15 ct15), sl15⟩)
    (c15 : PySem.W.codeIn K cd15 "law" = true) (k15 : PySem.W.keepIn K (.ref f15) = true)
    (vc0 : PySem.W.nsIn K mainGlobals "LETTERS" = some (some (.str LET tk0)))
    (vc1 : PySem.W.nsIn K mainGlobals "LONGEST_NAME" = some (some (.int 8 tk1)))
    (vc2 : PySem.W.nsIn K mainGlobals "LONGEST_TEXT" = some (some (.int 12 tk2)))
    (z0 : PySem.W.nsIn K mainGlobals "len" = some none)
    (z1 : PySem.W.nsIn K mainGlobals "isinstance" = some none)
    (z2 : PySem.W.nsIn K mainGlobals "str" = some none)
    (z3 : PySem.W.nsIn K mainGlobals "int" = some none)
    (z4 : PySem.W.nsIn K mainGlobals "bool" = some none)
    (z5 : PySem.W.nsIn K mainGlobals "all" = some none)
    (z6 : PySem.W.nsIn K mainGlobals "repr" = some none)
    (z7 : PySem.W.nsIn K mainGlobals "range" = some none)
    (z8 : PySem.W.nsIn K mainGlobals "max" = some none)
    (z9 : PySem.W.nsIn K mainGlobals "min" = some none)
    (z10 : PySem.W.nsIn K mainGlobals "enumerate" = some none)
    (z11 : PySem.W.nsIn K mainGlobals "ValueError" = some none)
    (xaM : PySem.W.nsIn K mainGlobals "MaskError" = some (some (.ref CM)))
    (xcM : PySem.W.isClsIn K CM = true)
    (xtM : PySem.W.typeIn K (.ref CM) = some (.type "type"))
    (xhn : PySem.W.specialIn K (.builtin "object.__class__") "__get__" = some (some (.builtin "getset_descriptor.__get__")))
    (xht : PySem.W.takesIn K (.builtin "object.__class__") = some true)
    (xa0 : PySem.W.nsIn K mainGlobals "BadSchema" = some (some (.ref C0)))
    (xl0 : K.lookup C0 = some (excClassObj nm0 qn0 C0 N0 bs0 (tl5 CM) true sn0 sub0 ab0 col0 dd0 m0100 m1100 m2100 m3100 m5100 "ValueError.__new__"))
    (xs0 : PySem.W.findIn K (.ref C0) "__setattr__" = some (some (.builtin "object.__setattr__")))
    (xg0 : PySem.W.findIn K (.ref C0) "__getattribute__" = some (some (.builtin "BaseException.__getattribute__")))
    (xh0 : PySem.W.findIn K (.ref C0) "__getattr__" = some none)
    (xc0 : PySem.W.findIn K (.ref C0) "__class__" = some (some (.builtin "object.__class__")))
    (xn0 : PySem.W.findIn K (.ref C0) "value" = some none)
    (xk0 : PySem.W.keepIn K (.ref C0) = true)
    (xt0 : PySem.W.typeIn K (.ref C0) = some (.type "type"))
    (xi0 : PySem.W.findIn K (.ref C0) "__init__" = some (some (.ref I0)))
    (xj0 : PySem.W.typeIn K (.ref I0) = some (.type "function"))
    (xf0 : K.lookup I0 = some ⟨ioc0, iod0, .func (PySem.W.fnOf "__init__" "BadSchema.__init__" (defArgs s_ini0) (defBody s_ini0) (defScope s_ini0) .none ikV0 idc0 ipm0 ian0 icd0 ict0), isl0⟩)
    (xd0 : PySem.W.codeIn K icd0 "BadSchema.__init__" = true)
    (xp0 : PySem.W.keepIn K (.ref I0) = true)
    (xa1 : PySem.W.nsIn K mainGlobals "BadPath" = some (some (.ref C1)))
    (xl1 : K.lookup C1 = some (excClassObj nm1 qn1 C1 N1 bs1 (tl5 CM) true sn1 sub1 ab1 col1 dd1 m0101 m1101 m2101 m3101 m5101 "ValueError.__new__"))
    (xs1 : PySem.W.findIn K (.ref C1) "__setattr__" = some (some (.builtin "object.__setattr__")))
    (xg1 : PySem.W.findIn K (.ref C1) "__getattribute__" = some (some (.builtin "BaseException.__getattribute__")))
    (xh1 : PySem.W.findIn K (.ref C1) "__getattr__" = some none)
    (xc1 : PySem.W.findIn K (.ref C1) "__class__" = some (some (.builtin "object.__class__")))
    (xn1 : PySem.W.findIn K (.ref C1) "value" = some none)
    (xk1 : PySem.W.keepIn K (.ref C1) = true)
    (xt1 : PySem.W.typeIn K (.ref C1) = some (.type "type"))
    (xi1 : PySem.W.findIn K (.ref C1) "__init__" = some (some (.ref I1)))
    (xj1 : PySem.W.typeIn K (.ref I1) = some (.type "function"))
    (xf1 : K.lookup I1 = some ⟨ioc1, iod1, .func (PySem.W.fnOf "__init__" "BadPath.__init__" (defArgs s_ini1) (defBody s_ini1) (defScope s_ini1) .none ikV1 idc1 ipm1 ian1 icd1 ict1), isl1⟩)
    (xd1 : PySem.W.codeIn K icd1 "BadPath.__init__" = true)
    (xp1 : PySem.W.keepIn K (.ref I1) = true)
    (xa2 : PySem.W.nsIn K mainGlobals "BadValue" = some (some (.ref C2)))
    (xl2 : K.lookup C2 = some (excClassObj nm2 qn2 C2 N2 bs2 (tl5 CM) true sn2 sub2 ab2 col2 dd2 m0102 m1102 m2102 m3102 m5102 "ValueError.__new__"))
    (xs2 : PySem.W.findIn K (.ref C2) "__setattr__" = some (some (.builtin "object.__setattr__")))
    (xg2 : PySem.W.findIn K (.ref C2) "__getattribute__" = some (some (.builtin "BaseException.__getattribute__")))
    (xh2 : PySem.W.findIn K (.ref C2) "__getattr__" = some none)
    (xc2 : PySem.W.findIn K (.ref C2) "__class__" = some (some (.builtin "object.__class__")))
    (xn2 : PySem.W.findIn K (.ref C2) "value" = some none)
    (xk2 : PySem.W.keepIn K (.ref C2) = true)
    (xt2 : PySem.W.typeIn K (.ref C2) = some (.type "type"))
    (xi2 : PySem.W.findIn K (.ref C2) "__init__" = some (some (.ref I2)))
    (xj2 : PySem.W.typeIn K (.ref I2) = some (.type "function"))
    (xf2 : K.lookup I2 = some ⟨ioc2, iod2, .func (PySem.W.fnOf "__init__" "BadValue.__init__" (defArgs s_ini2) (defBody s_ini2) (defScope s_ini2) .none ikV2 idc2 ipm2 ian2 icd2 ict2), isl2⟩)
    (xd2 : PySem.W.codeIn K icd2 "BadValue.__init__" = true)
    (xp2 : PySem.W.keepIn K (.ref I2) = true)
    (xa3 : PySem.W.nsIn K mainGlobals "BadPaper" = some (some (.ref C3)))
    (xl3 : K.lookup C3 = some (excClassObj nm3 qn3 C3 N3 bs3 (tl5 CM) true sn3 sub3 ab3 col3 dd3 m0103 m1103 m2103 m3103 m5103 "ValueError.__new__"))
    (xs3 : PySem.W.findIn K (.ref C3) "__setattr__" = some (some (.builtin "object.__setattr__")))
    (xg3 : PySem.W.findIn K (.ref C3) "__getattribute__" = some (some (.builtin "BaseException.__getattribute__")))
    (xh3 : PySem.W.findIn K (.ref C3) "__getattr__" = some none)
    (xc3 : PySem.W.findIn K (.ref C3) "__class__" = some (some (.builtin "object.__class__")))
    (xn3 : PySem.W.findIn K (.ref C3) "value" = some none)
    (xk3 : PySem.W.keepIn K (.ref C3) = true)
    (xt3 : PySem.W.typeIn K (.ref C3) = some (.type "type"))
    (xi3 : PySem.W.findIn K (.ref C3) "__init__" = some (some (.ref I3)))
    (xj3 : PySem.W.typeIn K (.ref I3) = some (.type "function"))
    (xf3 : K.lookup I3 = some ⟨ioc3, iod3, .func (PySem.W.fnOf "__init__" "BadPaper.__init__" (defArgs s_ini3) (defBody s_ini3) (defScope s_ini3) .none ikV3 idc3 ipm3 ian3 icd3 ict3), isl3⟩)
    (xd3 : PySem.W.codeIn K icd3 "BadPaper.__init__" = true)
    (xp3 : PySem.W.keepIn K (.ref I3) = true)
    (xa4 : PySem.W.nsIn K mainGlobals "BadStep" = some (some (.ref C4)))
    (xl4 : K.lookup C4 = some (excClassObj nm4 qn4 C4 N4 bs4 (tl5 CM) true sn4 sub4 ab4 col4 dd4 m0104 m1104 m2104 m3104 m5104 "ValueError.__new__"))
    (xs4 : PySem.W.findIn K (.ref C4) "__setattr__" = some (some (.builtin "object.__setattr__")))
    (xg4 : PySem.W.findIn K (.ref C4) "__getattribute__" = some (some (.builtin "BaseException.__getattribute__")))
    (xh4 : PySem.W.findIn K (.ref C4) "__getattr__" = some none)
    (xc4 : PySem.W.findIn K (.ref C4) "__class__" = some (some (.builtin "object.__class__")))
    (xn4 : PySem.W.findIn K (.ref C4) "value" = some none)
    (xk4 : PySem.W.keepIn K (.ref C4) = true)
    (xt4 : PySem.W.typeIn K (.ref C4) = some (.type "type"))
    (xi4 : PySem.W.findIn K (.ref C4) "__init__" = some (some (.ref I4)))
    (xj4 : PySem.W.typeIn K (.ref I4) = some (.type "function"))
    (xf4 : K.lookup I4 = some ⟨ioc4, iod4, .func (PySem.W.fnOf "__init__" "BadStep.__init__" (defArgs s_ini4) (defBody s_ini4) (defScope s_ini4) .none ikV4 idc4 ipm4 ian4 icd4 ict4), isl4⟩)
    (xd4 : PySem.W.codeIn K icd4 "BadStep.__init__" = true)
    (xp4 : PySem.W.keepIn K (.ref I4) = true)
    (xa5 : PySem.W.nsIn K mainGlobals "BadProgram" = some (some (.ref C5)))
    (xl5 : K.lookup C5 = some (excClassObj nm5 qn5 C5 N5 bs5 (tl5 CM) true sn5 sub5 ab5 col5 dd5 m0105 m1105 m2105 m3105 m5105 "ValueError.__new__"))
    (xs5 : PySem.W.findIn K (.ref C5) "__setattr__" = some (some (.builtin "object.__setattr__")))
    (xg5 : PySem.W.findIn K (.ref C5) "__getattribute__" = some (some (.builtin "BaseException.__getattribute__")))
    (xh5 : PySem.W.findIn K (.ref C5) "__getattr__" = some none)
    (xc5 : PySem.W.findIn K (.ref C5) "__class__" = some (some (.builtin "object.__class__")))
    (xn5 : PySem.W.findIn K (.ref C5) "value" = some none)
    (xk5 : PySem.W.keepIn K (.ref C5) = true)
    (xt5 : PySem.W.typeIn K (.ref C5) = some (.type "type"))
    (xi5 : PySem.W.findIn K (.ref C5) "__init__" = some (some (.ref I5)))
    (xj5 : PySem.W.typeIn K (.ref I5) = some (.type "function"))
    (xf5 : K.lookup I5 = some ⟨ioc5, iod5, .func (PySem.W.fnOf "__init__" "BadProgram.__init__" (defArgs s_ini5) (defBody s_ini5) (defScope s_ini5) .none ikV5 idc5 ipm5 ian5 icd5 ict5), isl5⟩)
    (xd5 : PySem.W.codeIn K icd5 "BadProgram.__init__" = true)
    (xp5 : PySem.W.keepIn K (.ref I5) = true)
    (xa6 : PySem.W.nsIn K mainGlobals "BadMask" = some (some (.ref C6)))
    (xl6 : K.lookup C6 = some (excClassObj nm6 qn6 C6 N6 bs6 (tl5 CM) true sn6 sub6 ab6 col6 dd6 m0106 m1106 m2106 m3106 m5106 "ValueError.__new__"))
    (xs6 : PySem.W.findIn K (.ref C6) "__setattr__" = some (some (.builtin "object.__setattr__")))
    (xg6 : PySem.W.findIn K (.ref C6) "__getattribute__" = some (some (.builtin "BaseException.__getattribute__")))
    (xh6 : PySem.W.findIn K (.ref C6) "__getattr__" = some none)
    (xc6 : PySem.W.findIn K (.ref C6) "__class__" = some (some (.builtin "object.__class__")))
    (xn6 : PySem.W.findIn K (.ref C6) "value" = some none)
    (xk6 : PySem.W.keepIn K (.ref C6) = true)
    (xt6 : PySem.W.typeIn K (.ref C6) = some (.type "type"))
    (xi6 : PySem.W.findIn K (.ref C6) "__init__" = some (some (.ref I6)))
    (xj6 : PySem.W.typeIn K (.ref I6) = some (.type "function"))
    (xf6 : K.lookup I6 = some ⟨ioc6, iod6, .func (PySem.W.fnOf "__init__" "BadMask.__init__" (defArgs s_ini6) (defBody s_ini6) (defScope s_ini6) .none ikV6 idc6 ipm6 ian6 icd6 ict6), isl6⟩)
    (xd6 : PySem.W.codeIn K icd6 "BadMask.__init__" = true)
    (xp6 : PySem.W.keepIn K (.ref I6) = true)
    (xa7 : PySem.W.nsIn K mainGlobals "BadText" = some (some (.ref C7)))
    (xl7 : K.lookup C7 = some (excClassObj nm7 qn7 C7 N7 bs7 (tl5 CM) true sn7 sub7 ab7 col7 dd7 m0107 m1107 m2107 m3107 m5107 "ValueError.__new__"))
    (xs7 : PySem.W.findIn K (.ref C7) "__setattr__" = some (some (.builtin "object.__setattr__")))
    (xg7 : PySem.W.findIn K (.ref C7) "__getattribute__" = some (some (.builtin "BaseException.__getattribute__")))
    (xh7 : PySem.W.findIn K (.ref C7) "__getattr__" = some none)
    (xc7 : PySem.W.findIn K (.ref C7) "__class__" = some (some (.builtin "object.__class__")))
    (xn7 : PySem.W.findIn K (.ref C7) "value" = some none)
    (xk7 : PySem.W.keepIn K (.ref C7) = true)
    (xt7 : PySem.W.typeIn K (.ref C7) = some (.type "type"))
    (xi7 : PySem.W.findIn K (.ref C7) "__init__" = some (some (.ref I7)))
    (xj7 : PySem.W.typeIn K (.ref I7) = some (.type "function"))
    (xf7 : K.lookup I7 = some ⟨ioc7, iod7, .func (PySem.W.fnOf "__init__" "BadText.__init__" (defArgs s_ini7) (defBody s_ini7) (defScope s_ini7) .none ikV7 idc7 ipm7 ian7 icd7 ict7), isl7⟩)
    (xd7 : PySem.W.codeIn K icd7 "BadText.__init__" = true)
    (xp7 : PySem.W.keepIn K (.ref I7) = true)
    (xa8 : PySem.W.nsIn K mainGlobals "BadCommand" = some (some (.ref C8)))
    (xl8 : K.lookup C8 = some (excClassObj nm8 qn8 C8 N8 bs8 (tl5 CM) true sn8 sub8 ab8 col8 dd8 m0108 m1108 m2108 m3108 m5108 "ValueError.__new__"))
    (xs8 : PySem.W.findIn K (.ref C8) "__setattr__" = some (some (.builtin "object.__setattr__")))
    (xg8 : PySem.W.findIn K (.ref C8) "__getattribute__" = some (some (.builtin "BaseException.__getattribute__")))
    (xh8 : PySem.W.findIn K (.ref C8) "__getattr__" = some none)
    (xc8 : PySem.W.findIn K (.ref C8) "__class__" = some (some (.builtin "object.__class__")))
    (xn8 : PySem.W.findIn K (.ref C8) "command" = some none)
    (xk8 : PySem.W.keepIn K (.ref C8) = true)
    (xt8 : PySem.W.typeIn K (.ref C8) = some (.type "type"))
    (xi8 : PySem.W.findIn K (.ref C8) "__init__" = some (some (.ref I8)))
    (xj8 : PySem.W.typeIn K (.ref I8) = some (.type "function"))
    (xf8 : K.lookup I8 = some ⟨ioc8, iod8, .func (PySem.W.fnOf "__init__" "BadCommand.__init__" (defArgs s_ini8) (defBody s_ini8) (defScope s_ini8) .none ikV8 idc8 ipm8 ian8 icd8 ict8), isl8⟩)
    (xd8 : PySem.W.codeIn K icd8 "BadCommand.__init__" = true)
    (xp8 : PySem.W.keepIn K (.ref I8) = true)
    (xa9 : PySem.W.nsIn K mainGlobals "Unset" = some (some (.ref C9)))
    (xl9 : K.lookup C9 = some (excClassObj nm9 qn9 C9 N9 bs9 (tl5 CM) true sn9 sub9 ab9 col9 dd9 m0109 m1109 m2109 m3109 m5109 "ValueError.__new__"))
    (xs9 : PySem.W.findIn K (.ref C9) "__setattr__" = some (some (.builtin "object.__setattr__")))
    (xg9 : PySem.W.findIn K (.ref C9) "__getattribute__" = some (some (.builtin "BaseException.__getattribute__")))
    (xh9 : PySem.W.findIn K (.ref C9) "__getattr__" = some none)
    (xc9 : PySem.W.findIn K (.ref C9) "__class__" = some (some (.builtin "object.__class__")))
    (xn9 : PySem.W.findIn K (.ref C9) "path" = some none)
    (xk9 : PySem.W.keepIn K (.ref C9) = true)
    (xt9 : PySem.W.typeIn K (.ref C9) = some (.type "type"))
    (xi9 : PySem.W.findIn K (.ref C9) "__init__" = some (some (.ref I9)))
    (xj9 : PySem.W.typeIn K (.ref I9) = some (.type "function"))
    (xf9 : K.lookup I9 = some ⟨ioc9, iod9, .func (PySem.W.fnOf "__init__" "Unset.__init__" (defArgs s_ini9) (defBody s_ini9) (defScope s_ini9) .none ikV9 idc9 ipm9 ian9 icd9 ict9), isl9⟩)
    (xd9 : PySem.W.codeIn K icd9 "Unset.__init__" = true)
    (xp9 : PySem.W.keepIn K (.ref I9) = true)
    (xa10 : PySem.W.nsIn K mainGlobals "Lost" = some (some (.ref C10)))
    (xl10 : K.lookup C10 = some (excClassObj nm10 qn10 C10 N10 bs10 (tl5 CM) true sn10 sub10 ab10 col10 dd10 m0110 m1110 m2110 m3110 m5110 "ValueError.__new__"))
    (xs10 : PySem.W.findIn K (.ref C10) "__setattr__" = some (some (.builtin "object.__setattr__")))
    (xg10 : PySem.W.findIn K (.ref C10) "__getattribute__" = some (some (.builtin "BaseException.__getattribute__")))
    (xh10 : PySem.W.findIn K (.ref C10) "__getattr__" = some none)
    (xc10 : PySem.W.findIn K (.ref C10) "__class__" = some (some (.builtin "object.__class__")))
    (xn10 : PySem.W.findIn K (.ref C10) "pair" = some none)
    (xk10 : PySem.W.keepIn K (.ref C10) = true)
    (xt10 : PySem.W.typeIn K (.ref C10) = some (.type "type"))
    (xi10 : PySem.W.findIn K (.ref C10) "__init__" = some (some (.ref I10)))
    (xj10 : PySem.W.typeIn K (.ref I10) = some (.type "function"))
    (xf10 : K.lookup I10 = some ⟨ioc10, iod10, .func (PySem.W.fnOf "__init__" "Lost.__init__" (defArgs s_ini10) (defBody s_ini10) (defScope s_ini10) .none ikV10 idc10 ipm10 ian10 icd10 ict10), isl10⟩)
    (xd10 : PySem.W.codeIn K icd10 "Lost.__init__" = true)
    (xp10 : PySem.W.keepIn K (.ref I10) = true)
    (xa11 : PySem.W.nsIn K mainGlobals "Refused" = some (some (.ref C11)))
    (xl11 : K.lookup C11 = some (excClassObj nm11 qn11 C11 N11 bs11 (tl5 CM) true sn11 sub11 ab11 col11 dd11 m0111 m1111 m2111 m3111 m5111 "ValueError.__new__"))
    (xs11 : PySem.W.findIn K (.ref C11) "__setattr__" = some (some (.builtin "object.__setattr__")))
    (xg11 : PySem.W.findIn K (.ref C11) "__getattribute__" = some (some (.builtin "BaseException.__getattribute__")))
    (xh11 : PySem.W.findIn K (.ref C11) "__getattr__" = some none)
    (xc11 : PySem.W.findIn K (.ref C11) "__class__" = some (some (.builtin "object.__class__")))
    (xn11 : PySem.W.findIn K (.ref C11) "number" = some none)
    (xk11 : PySem.W.keepIn K (.ref C11) = true)
    (xt11 : PySem.W.typeIn K (.ref C11) = some (.type "type"))
    (xi11 : PySem.W.findIn K (.ref C11) "__init__" = some (some (.ref I11)))
    (xj11 : PySem.W.typeIn K (.ref I11) = some (.type "function"))
    (xf11 : K.lookup I11 = some ⟨ioc11, iod11, .func (PySem.W.fnOf "__init__" "Refused.__init__" (defArgs s_ini11) (defBody s_ini11) (defScope s_ini11) .none ikV11 idc11 ipm11 ian11 icd11 ict11), isl11⟩)
    (xd11 : PySem.W.codeIn K icd11 "Refused.__init__" = true)
    (xp11 : PySem.W.keepIn K (.ref I11) = true)
    (xa12 : PySem.W.nsIn K mainGlobals "UnknownNumber" = some (some (.ref C12)))
    (xl12 : K.lookup C12 = some (excClassObj nm12 qn12 C12 N12 bs12 (tl5 CM) true sn12 sub12 ab12 col12 dd12 m0112 m1112 m2112 m3112 m5112 "ValueError.__new__"))
    (xs12 : PySem.W.findIn K (.ref C12) "__setattr__" = some (some (.builtin "object.__setattr__")))
    (xg12 : PySem.W.findIn K (.ref C12) "__getattribute__" = some (some (.builtin "BaseException.__getattribute__")))
    (xh12 : PySem.W.findIn K (.ref C12) "__getattr__" = some none)
    (xc12 : PySem.W.findIn K (.ref C12) "__class__" = some (some (.builtin "object.__class__")))
    (xn12 : PySem.W.findIn K (.ref C12) "number" = some none)
    (xk12 : PySem.W.keepIn K (.ref C12) = true)
    (xt12 : PySem.W.typeIn K (.ref C12) = some (.type "type"))
    (xi12 : PySem.W.findIn K (.ref C12) "__init__" = some (some (.ref I12)))
    (xj12 : PySem.W.typeIn K (.ref I12) = some (.type "function"))
    (xf12 : K.lookup I12 = some ⟨ioc12, iod12, .func (PySem.W.fnOf "__init__" "UnknownNumber.__init__" (defArgs s_ini12) (defBody s_ini12) (defScope s_ini12) .none ikV12 idc12 ipm12 ian12 icd12 ict12), isl12⟩)
    (xd12 : PySem.W.codeIn K icd12 "UnknownNumber.__init__" = true)
    (xp12 : PySem.W.keepIn K (.ref I12) = true)
    (xa13 : PySem.W.nsIn K mainGlobals "NothingToUndo" = some (some (.ref C13)))
    (xl13 : K.lookup C13 = some (excClassObj nm13 qn13 C13 N13 bs13 (tl5 CM) true sn13 sub13 ab13 col13 dd13 m0113 m1113 m2113 m3113 m5113 "ValueError.__new__"))
    (xs13 : PySem.W.findIn K (.ref C13) "__setattr__" = some (some (.builtin "object.__setattr__")))
    (xg13 : PySem.W.findIn K (.ref C13) "__getattribute__" = some (some (.builtin "BaseException.__getattribute__")))
    (xh13 : PySem.W.findIn K (.ref C13) "__getattr__" = some none)
    (xc13 : PySem.W.findIn K (.ref C13) "__class__" = some (some (.builtin "object.__class__")))
    (xn13 : PySem.W.findIn K (.ref C13) "many" = some none)
    (xk13 : PySem.W.keepIn K (.ref C13) = true)
    (xt13 : PySem.W.typeIn K (.ref C13) = some (.type "type"))
    (xi13 : PySem.W.findIn K (.ref C13) "__init__" = some (some (.ref I13)))
    (xj13 : PySem.W.typeIn K (.ref I13) = some (.type "function"))
    (xf13 : K.lookup I13 = some ⟨ioc13, iod13, .func (PySem.W.fnOf "__init__" "NothingToUndo.__init__" (defArgs s_ini13) (defBody s_ini13) (defScope s_ini13) .none ikV13 idc13 ipm13 ian13 icd13 ict13), isl13⟩)
    (xd13 : PySem.W.codeIn K icd13 "NothingToUndo.__init__" = true)
    (xp13 : PySem.W.keepIn K (.ref I13) = true)
    (dis : ([CM, C0, C1, C2, C3, C4, C5, C6, C7, C8, C9, C10, C11, C12, C13] : List Addr).Nodup)
    : ∃ fd : FuncData, (∀ (s : Shared) (v : Value), BindsTo s fd ⟨[v], []⟩ [("script", v)]) ∧ ∀ b : Heap, K.In b → b.Ns mainGlobals mg → (∃ o, b.get? sysModules = some o) → GOk l.prog w K mg b CX0 4 fa fd ["script"] (spLaw K) := by
  have e := hfa.symm.trans (PySem.W.mg_of X G a15)
  cases e
  have T : Txt mg := ⟨PySem.W.mg_none_of X G z0, PySem.W.mg_none_of X G z1, PySem.W.mg_none_of X G z2, PySem.W.mg_none_of X G z3, PySem.W.mg_none_of X G z4, PySem.W.mg_none_of X G z5, PySem.W.mg_none_of X G z6, PySem.W.mg_none_of X G z7, PySem.W.mg_none_of X G z8, PySem.W.mg_none_of X G z9, PySem.W.mg_none_of X G z10, PySem.W.mg_none_of X G z11, ⟨_, PySem.W.mg_of X G vc0, ⟨_, rfl⟩⟩, ⟨_, PySem.W.mg_of X G vc1, ⟨_, rfl⟩⟩, ⟨_, PySem.W.mg_of X G vc2, ⟨_, rfl⟩⟩⟩
  have F0 := fun_mk (st := s_is_name) l0 c0 k0
  have p_is_name : Pl K mg "is_name" s_is_name ["value"] f0 _ := ⟨F0, PySem.W.mg_of X G a0, F0.binds (ps := ["value"]) fun _ _ _ _ _ _ us hl => match us, hl with | [_], _ => rfl⟩
  have F1 := fun_mk (st := s_is_text) l1 c1 k1
  have p_is_text : Pl K mg "is_text" s_is_text ["value"] f1 _ := ⟨F1, PySem.W.mg_of X G a1, F1.binds (ps := ["value"]) fun _ _ _ _ _ _ us hl => match us, hl with | [_], _ => rfl⟩
  have F2 := fun_mk (st := s_is_number) l2 c2 k2
  have p_is_number : Pl K mg "is_number" s_is_number ["value"] f2 _ := ⟨F2, PySem.W.mg_of X G a2, F2.binds (ps := ["value"]) fun _ _ _ _ _ _ us hl => match us, hl with | [_], _ => rfl⟩
  have F3 := fun_mk (st := s_is_flag) l3 c3 k3
  have p_is_flag : Pl K mg "is_flag" s_is_flag ["value"] f3 _ := ⟨F3, PySem.W.mg_of X G a3, F3.binds (ps := ["value"]) fun _ _ _ _ _ _ us hl => match us, hl with | [_], _ => rfl⟩
  have F4 := fun_mk (st := s_value_key) l4 c4 k4
  have p_value_key : Pl K mg "value_key" s_value_key ["value"] f4 _ := ⟨F4, PySem.W.mg_of X G a4, F4.binds (ps := ["value"]) fun _ _ _ _ _ _ us hl => match us, hl with | [_], _ => rfl⟩
  have F5 := fun_mk (st := s_is_letter_row) l5 c5 k5
  have p_is_letter_row : Pl K mg "is_letter_row" s_is_letter_row ["value"] f5 _ := ⟨F5, PySem.W.mg_of X G a5, F5.binds (ps := ["value"]) fun _ _ _ _ _ _ us hl => match us, hl with | [_], _ => rfl⟩
  have F6 := fun_mk (st := s_law_well) l6 c6 k6
  have p_law_well : Pl K mg "_law_well" s_law_well ["script", "start"] f6 _ := ⟨F6, PySem.W.mg_of X G a6, F6.binds (ps := ["script", "start"]) fun _ _ _ _ _ _ us hl => match us, hl with | [_, _], _ => rfl⟩
  have F7 := fun_mk (st := s_law_draw) l7 c7 k7
  have p_law_draw : Pl K mg "_law_draw" s_law_draw ["well", "bound"] f7 _ := ⟨F7, PySem.W.mg_of X G a7, F7.binds (ps := ["well", "bound"]) fun _ _ _ _ _ _ us hl => match us, hl with | [_, _], _ => rfl⟩
  have F8 := fun_mk (st := s_law_choose) l8 c8 k8
  have p_law_choose : Pl K mg "_law_choose" s_law_choose ["well", "things"] f8 _ := ⟨F8, PySem.W.mg_of X G a8, F8.binds (ps := ["well", "things"]) fun _ _ _ _ _ _ us hl => match us, hl with | [_, _], _ => rfl⟩
  have F9 := fun_mk (st := s_law_any) l9 c9 k9
  have p_law_any : Pl K mg "_law_any" s_law_any ["well"] f9 _ := ⟨F9, PySem.W.mg_of X G a9, F9.binds (ps := ["well"]) fun _ _ _ _ _ _ us hl => match us, hl with | [_], _ => rfl⟩
  have F10 := fun_mk (st := s_law_kinds) l10 c10 k10
  have p_law_kinds : Pl K mg "_law_kinds" s_law_kinds ["error"] f10 _ := ⟨F10, PySem.W.mg_of X G a10, F10.binds (ps := ["error"]) fun _ _ _ _ _ _ us hl => match us, hl with | [_], _ => rfl⟩
  have F11 := fun_mk (st := s_law_of_one_kind) l11 c11 k11
  have p_law_of_one_kind : Pl K mg "_law_of_one_kind" s_law_of_one_kind ["error", "at"] f11 _ := ⟨F11, PySem.W.mg_of X G a11, F11.binds (ps := ["error", "at"]) fun _ _ _ _ _ _ us hl => match us, hl with | [_, _], _ => rfl⟩
  have F12 := fun_mk (st := s_law_made) l12 c12 k12
  have p_law_made : Pl K mg "_law_made" s_law_made ["thing"] f12 _ := ⟨F12, PySem.W.mg_of X G a12, F12.binds (ps := ["thing"]) fun _ _ _ _ _ _ us hl => match us, hl with | [_], _ => rfl⟩
  have F13 := fun_mk (st := s_law_named) l13 c13 k13
  have p_law_named : Pl K mg "_law_named" s_law_named ["thing"] f13 _ := ⟨F13, PySem.W.mg_of X G a13, F13.binds (ps := ["thing"]) fun _ _ _ _ _ _ us hl => match us, hl with | [_], _ => rfl⟩
  have F14 := fun_mk (st := s_law_kept) l14 c14 k14
  have p_law_kept : Pl K mg "_law_kept" s_law_kept ["errors"] f14 _ := ⟨F14, PySem.W.mg_of X G a14, F14.binds (ps := ["errors"]) fun _ _ _ _ _ _ us hl => match us, hl with | [_], _ => rfl⟩
  refine ⟨PySem.W.fnOf "law" "law" (defArgs s_law) (defBody s_law) (defScope s_law) .none kV15 dc15 pm15 an15 cd15 ct15, fun s v => .of_eq rfl, fun b _ _ SY => ?_⟩
  let cs : Nat → Addr := fun i => ([C0, C1, C2, C3, C4, C5, C6, C7, C8, C9, C10, C11, C12, C13] : List Addr).getD i 0
  have X0 : Xl K C0 CM := ⟨⟨_, _, _, _, _, _, _, _, _, _, _, _, _, _, xl0⟩⟩
  have G0 := fun_mk (st := s_ini0) xf0 xd0 xp0
  have E0 : Er l.prog w K mg b "BadSchema" C0 "value" := er_0 X0 (X0.oex xs0 xt0 xk0) (X0.exc xg0 xh0 xc0 xhn xht) (PySem.W.mg_of X G xa0) xn0 xi0 xj0 G0 fun _ _ _ => .of_eq rfl
  have X1 : Xl K C1 CM := ⟨⟨_, _, _, _, _, _, _, _, _, _, _, _, _, _, xl1⟩⟩
  have G1 := fun_mk (st := s_ini1) xf1 xd1 xp1
  have E1 : Er l.prog w K mg b "BadPath" C1 "value" := er_1 X1 (X1.oex xs1 xt1 xk1) (X1.exc xg1 xh1 xc1 xhn xht) (PySem.W.mg_of X G xa1) xn1 xi1 xj1 G1 fun _ _ _ => .of_eq rfl
  have X2 : Xl K C2 CM := ⟨⟨_, _, _, _, _, _, _, _, _, _, _, _, _, _, xl2⟩⟩
  have G2 := fun_mk (st := s_ini2) xf2 xd2 xp2
  have E2 : Er l.prog w K mg b "BadValue" C2 "value" := er_2 X2 (X2.oex xs2 xt2 xk2) (X2.exc xg2 xh2 xc2 xhn xht) (PySem.W.mg_of X G xa2) xn2 xi2 xj2 G2 fun _ _ _ => .of_eq rfl
  have X3 : Xl K C3 CM := ⟨⟨_, _, _, _, _, _, _, _, _, _, _, _, _, _, xl3⟩⟩
  have G3 := fun_mk (st := s_ini3) xf3 xd3 xp3
  have E3 : Er l.prog w K mg b "BadPaper" C3 "value" := er_3 X3 (X3.oex xs3 xt3 xk3) (X3.exc xg3 xh3 xc3 xhn xht) (PySem.W.mg_of X G xa3) xn3 xi3 xj3 G3 fun _ _ _ => .of_eq rfl
  have X4 : Xl K C4 CM := ⟨⟨_, _, _, _, _, _, _, _, _, _, _, _, _, _, xl4⟩⟩
  have G4 := fun_mk (st := s_ini4) xf4 xd4 xp4
  have E4 : Er l.prog w K mg b "BadStep" C4 "value" := er_4 X4 (X4.oex xs4 xt4 xk4) (X4.exc xg4 xh4 xc4 xhn xht) (PySem.W.mg_of X G xa4) xn4 xi4 xj4 G4 fun _ _ _ => .of_eq rfl
  have X5 : Xl K C5 CM := ⟨⟨_, _, _, _, _, _, _, _, _, _, _, _, _, _, xl5⟩⟩
  have G5 := fun_mk (st := s_ini5) xf5 xd5 xp5
  have E5 : Er l.prog w K mg b "BadProgram" C5 "value" := er_5 X5 (X5.oex xs5 xt5 xk5) (X5.exc xg5 xh5 xc5 xhn xht) (PySem.W.mg_of X G xa5) xn5 xi5 xj5 G5 fun _ _ _ => .of_eq rfl
  have X6 : Xl K C6 CM := ⟨⟨_, _, _, _, _, _, _, _, _, _, _, _, _, _, xl6⟩⟩
  have G6 := fun_mk (st := s_ini6) xf6 xd6 xp6
  have E6 : Er l.prog w K mg b "BadMask" C6 "value" := er_6 X6 (X6.oex xs6 xt6 xk6) (X6.exc xg6 xh6 xc6 xhn xht) (PySem.W.mg_of X G xa6) xn6 xi6 xj6 G6 fun _ _ _ => .of_eq rfl
  have X7 : Xl K C7 CM := ⟨⟨_, _, _, _, _, _, _, _, _, _, _, _, _, _, xl7⟩⟩
  have G7 := fun_mk (st := s_ini7) xf7 xd7 xp7
  have E7 : Er l.prog w K mg b "BadText" C7 "value" := er_7 X7 (X7.oex xs7 xt7 xk7) (X7.exc xg7 xh7 xc7 xhn xht) (PySem.W.mg_of X G xa7) xn7 xi7 xj7 G7 fun _ _ _ => .of_eq rfl
  have X8 : Xl K C8 CM := ⟨⟨_, _, _, _, _, _, _, _, _, _, _, _, _, _, xl8⟩⟩
  have G8 := fun_mk (st := s_ini8) xf8 xd8 xp8
  have E8 : Er l.prog w K mg b "BadCommand" C8 "command" := er_8 X8 (X8.oex xs8 xt8 xk8) (X8.exc xg8 xh8 xc8 xhn xht) (PySem.W.mg_of X G xa8) xn8 xi8 xj8 G8 fun _ _ _ => .of_eq rfl
  have X9 : Xl K C9 CM := ⟨⟨_, _, _, _, _, _, _, _, _, _, _, _, _, _, xl9⟩⟩
  have G9 := fun_mk (st := s_ini9) xf9 xd9 xp9
  have E9 : Er l.prog w K mg b "Unset" C9 "path" := er_9 X9 (X9.oex xs9 xt9 xk9) (X9.exc xg9 xh9 xc9 xhn xht) (PySem.W.mg_of X G xa9) xn9 xi9 xj9 G9 fun _ _ _ => .of_eq rfl
  have X10 : Xl K C10 CM := ⟨⟨_, _, _, _, _, _, _, _, _, _, _, _, _, _, xl10⟩⟩
  have G10 := fun_mk (st := s_ini10) xf10 xd10 xp10
  have E10 : Er l.prog w K mg b "Lost" C10 "pair" := er_10 X10 (X10.oex xs10 xt10 xk10) (X10.exc xg10 xh10 xc10 xhn xht) (PySem.W.mg_of X G xa10) xn10 xi10 xj10 G10 fun _ _ _ => .of_eq rfl
  have X11 : Xl K C11 CM := ⟨⟨_, _, _, _, _, _, _, _, _, _, _, _, _, _, xl11⟩⟩
  have G11 := fun_mk (st := s_ini11) xf11 xd11 xp11
  have E11 : Er l.prog w K mg b "Refused" C11 "number" := er_11 X11 (X11.oex xs11 xt11 xk11) (X11.exc xg11 xh11 xc11 xhn xht) (PySem.W.mg_of X G xa11) xn11 xi11 xj11 G11 fun _ _ _ => .of_eq rfl
  have X12 : Xl K C12 CM := ⟨⟨_, _, _, _, _, _, _, _, _, _, _, _, _, _, xl12⟩⟩
  have G12 := fun_mk (st := s_ini12) xf12 xd12 xp12
  have E12 : Er l.prog w K mg b "UnknownNumber" C12 "number" := er_12 X12 (X12.oex xs12 xt12 xk12) (X12.exc xg12 xh12 xc12 xhn xht) (PySem.W.mg_of X G xa12) xn12 xi12 xj12 G12 fun _ _ _ => .of_eq rfl
  have X13 : Xl K C13 CM := ⟨⟨_, _, _, _, _, _, _, _, _, _, _, _, _, _, xl13⟩⟩
  have G13 := fun_mk (st := s_ini13) xf13 xd13 xp13
  have E13 : Er l.prog w K mg b "NothingToUndo" C13 "many" := er_13 X13 (X13.oex xs13 xt13 xk13) (X13.exc xg13 xh13 xc13 xhn xht) (PySem.W.mg_of X G xa13) xn13 xi13 xj13 G13 fun _ _ _ => .of_eq rfl
  have xls : ∀ i, i < 14 → Xl K (cs i) CM := fun i hi => match i, hi with | 0, _ => X0 | 1, _ => X1 | 2, _ => X2 | 3, _ => X3 | 4, _ => X4 | 5, _ => X5 | 6, _ => X6 | 7, _ => X7 | 8, _ => X8 | 9, _ => X9 | 10, _ => X10 | 11, _ => X11 | 12, _ => X12 | 13, _ => X13
  have ers : ∀ i, i < 14 → Er l.prog w K mg b (CN i) (cs i) (FN i) := fun i hi => match i, hi with | 0, _ => E0 | 1, _ => E1 | 2, _ => E2 | 3, _ => E3 | 4, _ => E4 | 5, _ => E5 | 6, _ => E6 | 7, _ => E7 | 8, _ => E8 | 9, _ => E9 | 10, _ => E10 | 11, _ => E11 | 12, _ => E12 | 13, _ => E13
  have xts : ∀ i, i < 14 → PySem.W.typeIn K (.ref (cs i)) = some (.type "type") := fun i hi => match i, hi with | 0, _ => xt0 | 1, _ => xt1 | 2, _ => xt2 | 3, _ => xt3 | 4, _ => xt4 | 5, _ => xt5 | 6, _ => xt6 | 7, _ => xt7 | 8, _ => xt8 | 9, _ => xt9 | 10, _ => xt10 | 11, _ => xt11 | 12, _ => xt12 | 13, _ => xt13
  have nd := List.nodup_cons.mp dis
  have neM : ∀ i, i < 14 → cs i ≠ CM := fun i hi z => nd.1 (by rw [← z]; exact getD_mem hi)
  have inj : ∀ i j, i < 14 → j < 14 → cs i = cs j → i = j := fun i j hi hj z => getD_inj nd.2 hi hj z
  have TE : Te l.prog w K mg b cs CM := ⟨ers, PySem.W.mg_of X G xaM, fun i j hi hj => kit_dec (inj i j hi hj) ((xls i hi).kit (xls j hj) (xts j hj) (neM j hj)), fun i hi => (xls i hi).kitM xcM xtM, fun i hi => (xls i hi).kitV⟩
  have D_row := ok_is_letter_row (P := l.prog) (w := w) (base := b) T p_is_letter_row
  have D_name := ok_is_name T p_is_name D_row
  have D_text := ok_is_text T p_is_text D_row
  have D_num := ok_is_number (P := l.prog) (w := w) (base := b) T p_is_number
  have D_flag := ok_is_flag (P := l.prog) (w := w) (base := b) T p_is_flag
  have D_key := ok_value_key (P := l.prog) (w := w) (base := b) T p_value_key
  have K_name : Dkw l.prog w K mg b 2 "is_name" "value" (spD nameD) := ⟨_, _, g_is_name T p_is_name D_row, p_is_name.m, p_is_name.F.kp, fun s u => .of_eq rfl⟩
  have K_text : Dkw l.prog w K mg b 2 "is_text" "value" (spD textD) := ⟨_, _, g_is_text T p_is_text D_row, p_is_text.m, p_is_text.F.kp, fun s u => .of_eq rfl⟩
  have K_num : Dkw l.prog w K mg b 1 "is_number" "value" (spD numD) := ⟨_, _, g_is_number T p_is_number, p_is_number.m, p_is_number.F.kp, fun s u => .of_eq rfl⟩
  have K_flag : Dkw l.prog w K mg b 1 "is_flag" "value" (spD flagD) := ⟨_, _, g_is_flag T p_is_flag, p_is_flag.m, p_is_flag.F.kp, fun s u => .of_eq rfl⟩
  have K_key : Dkw l.prog w K mg b 1 "value_key" "value" spKey := ⟨_, _, g_value_key T p_value_key, p_value_key.m, p_value_key.F.kp, fun s u => .of_eq rfl⟩
  have D_well := ok_law_well (P := l.prog) (w := w) (base := b) T p_law_well
  have D_draw := ok_law_draw (P := l.prog) (w := w) (base := b) T p_law_draw
  have D_choose := ok_law_choose T p_law_choose D_draw
  have D_any := ok_law_any T p_law_any D_choose D_draw
  have D_kinds := ok_law_kinds T TE p_law_kinds
  have D_one := ok_law_of_one_kind T TE p_law_of_one_kind D_kinds
  have D_made := ok_law_made T TE p_law_made
  have D_named := ok_law_named T TE p_law_named
  have D_kept := ok_law_kept T TE p_law_kept
  exact ok_law T SY (fun_mk (st := s_law) l15 c15 k15) D_name D_text D_num D_flag D_key D_well D_any D_made D_named D_kept D_one K_name K_text K_num K_flag K_key
end K2
open PySem PySem.W PyProof.Rows
set_option maxRecDepth 100000 in
set_option maxHeartbeats 0 in
theorem PySem.Challenge.cw_maskwrites_k02_errors_and_names_of_argum_holds : PySem.Challenge.rw_maskwrites_k02_errors_and_names_of_argum.Holds := by
  w_on; o_law; k_head; (case hw => w_witness2)
  k_fill
  refine Zk.walk_go (l := PySem.Challenge.rw_maskwrites_k02_errors_and_names_of_argum) (n := 63) (k := 4) (x := "script") (sp := fun w => K2.spLaw _) rfl (by decide) (by rfl) rfl ⟨rfl, by decide, by decide⟩ (fun w h Y => PySem.W.kIn_of Y) ?F (fun _ _ a ns hl hb _ hS => ⟨a, ns, rfl, hS, hl, hb, fun _ => rfl⟩)
  case F =>
    intro w mg fa h KX G hmg
    refine' K2.all_mk KX G hmg ?a0 ?l0 ?c0 ?k0 ?a1 ?l1 ?c1 ?k1 ?a2 ?l2 ?c2 ?k2 ?a3 ?l3 ?c3 ?k3 ?a4 ?l4 ?c4 ?k4 ?a5 ?l5 ?c5 ?k5 ?a6 ?l6 ?c6 ?k6 ?a7 ?l7 ?c7 ?k7 ?a8 ?l8 ?c8 ?k8 ?a9 ?l9 ?c9 ?k9 ?a10 ?l10 ?c10 ?k10 ?a11 ?l11 ?c11 ?k11 ?a12 ?l12 ?c12 ?k12 ?a13 ?l13 ?c13 ?k13 ?a14 ?l14 ?c14 ?k14 ?a15 ?l15 ?c15 ?k15 ?vc0 ?vc1 ?vc2 ?z0 ?z1 ?z2 ?z3 ?z4 ?z5 ?z6 ?z7 ?z8 ?z9 ?z10 ?z11 ?xaM ?xcM ?xtM ?xhn ?xht ?xa0 ?xl0 ?xs0 ?xg0 ?xh0 ?xc0 ?xn0 ?xk0 ?xt0 ?xi0 ?xj0 ?xf0 ?xd0 ?xp0 ?xa1 ?xl1 ?xs1 ?xg1 ?xh1 ?xc1 ?xn1 ?xk1 ?xt1 ?xi1 ?xj1 ?xf1 ?xd1 ?xp1 ?xa2 ?xl2 ?xs2 ?xg2 ?xh2 ?xc2 ?xn2 ?xk2 ?xt2 ?xi2 ?xj2 ?xf2 ?xd2 ?xp2 ?xa3 ?xl3 ?xs3 ?xg3 ?xh3 ?xc3 ?xn3 ?xk3 ?xt3 ?xi3 ?xj3 ?xf3 ?xd3 ?xp3 ?xa4 ?xl4 ?xs4 ?xg4 ?xh4 ?xc4 ?xn4 ?xk4 ?xt4 ?xi4 ?xj4 ?xf4 ?xd4 ?xp4 ?xa5 ?xl5 ?xs5 ?xg5 ?xh5 ?xc5 ?xn5 ?xk5 ?xt5 ?xi5 ?xj5 ?xf5 ?xd5 ?xp5 ?xa6 ?xl6 ?xs6 ?xg6 ?xh6 ?xc6 ?xn6 ?xk6 ?xt6 ?xi6 ?xj6 ?xf6 ?xd6 ?xp6 ?xa7 ?xl7 ?xs7 ?xg7 ?xh7 ?xc7 ?xn7 ?xk7 ?xt7 ?xi7 ?xj7 ?xf7 ?xd7 ?xp7 ?xa8 ?xl8 ?xs8 ?xg8 ?xh8 ?xc8 ?xn8 ?xk8 ?xt8 ?xi8 ?xj8 ?xf8 ?xd8 ?xp8 ?xa9 ?xl9 ?xs9 ?xg9 ?xh9 ?xc9 ?xn9 ?xk9 ?xt9 ?xi9 ?xj9 ?xf9 ?xd9 ?xp9 ?xa10 ?xl10 ?xs10 ?xg10 ?xh10 ?xc10 ?xn10 ?xk10 ?xt10 ?xi10 ?xj10 ?xf10 ?xd10 ?xp10 ?xa11 ?xl11 ?xs11 ?xg11 ?xh11 ?xc11 ?xn11 ?xk11 ?xt11 ?xi11 ?xj11 ?xf11 ?xd11 ?xp11 ?xa12 ?xl12 ?xs12 ?xg12 ?xh12 ?xc12 ?xn12 ?xk12 ?xt12 ?xi12 ?xj12 ?xf12 ?xd12 ?xp12 ?xa13 ?xl13 ?xs13 ?xg13 ?xh13 ?xc13 ?xn13 ?xk13 ?xt13 ?xi13 ?xj13 ?xf13 ?xd13 ?xp13 ?dis
    (case a0 => k_is)
    (case l0 => k_is)
    (case c0 => k_is)
    (case k0 => k_is)
    (case a1 => k_is)
    (case l1 => k_is)
    (case c1 => k_is)
    (case k1 => k_is)
    (case a2 => k_is)
    (case l2 => k_is)
    (case c2 => k_is)
    (case k2 => k_is)
    (case a3 => k_is)
    (case l3 => k_is)
    (case c3 => k_is)
    (case k3 => k_is)
    (case a4 => k_is)
    (case l4 => k_is)
    (case c4 => k_is)
    (case k4 => k_is)
    (case a5 => k_is)
    (case l5 => k_is)
    (case c5 => k_is)
    (case k5 => k_is)
    (case a6 => k_is)
    (case l6 => k_is)
    (case c6 => k_is)
    (case k6 => k_is)
    (case a7 => k_is)
    (case l7 => k_is)
    (case c7 => k_is)
    (case k7 => k_is)
    (case a8 => k_is)
    (case l8 => k_is)
    (case c8 => k_is)
    (case k8 => k_is)
    (case a9 => k_is)
    (case l9 => k_is)
    (case c9 => k_is)
    (case k9 => k_is)
    (case a10 => k_is)
    (case l10 => k_is)
    (case c10 => k_is)
    (case k10 => k_is)
    (case a11 => k_is)
    (case l11 => k_is)
    (case c11 => k_is)
    (case k11 => k_is)
    (case a12 => k_is)
    (case l12 => k_is)
    (case c12 => k_is)
    (case k12 => k_is)
    (case a13 => k_is)
    (case l13 => k_is)
    (case c13 => k_is)
    (case k13 => k_is)
    (case a14 => k_is)
    (case l14 => k_is)
    (case c14 => k_is)
    (case k14 => k_is)
    (case a15 => k_is)
    (case l15 => k_is)
    (case c15 => k_is)
    (case k15 => k_is)
    (case vc0 => k_is)
    (case vc1 => k_is)
    (case vc2 => k_is)
    (case z0 => k_is)
    (case z1 => k_is)
    (case z2 => k_is)
    (case z3 => k_is)
    (case z4 => k_is)
    (case z5 => k_is)
    (case z6 => k_is)
    (case z7 => k_is)
    (case z8 => k_is)
    (case z9 => k_is)
    (case z10 => k_is)
    (case z11 => k_is)
    (case xaM => k_is)
    (case xcM => k_is)
    (case xtM => k_is)
    (case xhn => k_is)
    (case xht => k_is)
    (case xa0 => k_is)
    (case xl0 => k_is)
    (case xs0 => k_is)
    (case xg0 => k_is)
    (case xh0 => k_is)
    (case xc0 => k_is)
    (case xn0 => k_is)
    (case xk0 => k_is)
    (case xt0 => k_is)
    (case xi0 => k_is)
    (case xj0 => k_is)
    (case xf0 => k_is)
    (case xd0 => k_is)
    (case xp0 => k_is)
    (case xa1 => k_is)
    (case xl1 => k_is)
    (case xs1 => k_is)
    (case xg1 => k_is)
    (case xh1 => k_is)
    (case xc1 => k_is)
    (case xn1 => k_is)
    (case xk1 => k_is)
    (case xt1 => k_is)
    (case xi1 => k_is)
    (case xj1 => k_is)
    (case xf1 => k_is)
    (case xd1 => k_is)
    (case xp1 => k_is)
    (case xa2 => k_is)
    (case xl2 => k_is)
    (case xs2 => k_is)
    (case xg2 => k_is)
    (case xh2 => k_is)
    (case xc2 => k_is)
    (case xn2 => k_is)
    (case xk2 => k_is)
    (case xt2 => k_is)
    (case xi2 => k_is)
    (case xj2 => k_is)
    (case xf2 => k_is)
    (case xd2 => k_is)
    (case xp2 => k_is)
    (case xa3 => k_is)
    (case xl3 => k_is)
    (case xs3 => k_is)
    (case xg3 => k_is)
    (case xh3 => k_is)
    (case xc3 => k_is)
    (case xn3 => k_is)
    (case xk3 => k_is)
    (case xt3 => k_is)
    (case xi3 => k_is)
    (case xj3 => k_is)
    (case xf3 => k_is)
    (case xd3 => k_is)
    (case xp3 => k_is)
    (case xa4 => k_is)
    (case xl4 => k_is)
    (case xs4 => k_is)
    (case xg4 => k_is)
    (case xh4 => k_is)
    (case xc4 => k_is)
    (case xn4 => k_is)
    (case xk4 => k_is)
    (case xt4 => k_is)
    (case xi4 => k_is)
    (case xj4 => k_is)
    (case xf4 => k_is)
    (case xd4 => k_is)
    (case xp4 => k_is)
    (case xa5 => k_is)
    (case xl5 => k_is)
    (case xs5 => k_is)
    (case xg5 => k_is)
    (case xh5 => k_is)
    (case xc5 => k_is)
    (case xn5 => k_is)
    (case xk5 => k_is)
    (case xt5 => k_is)
    (case xi5 => k_is)
    (case xj5 => k_is)
    (case xf5 => k_is)
    (case xd5 => k_is)
    (case xp5 => k_is)
    (case xa6 => k_is)
    (case xl6 => k_is)
    (case xs6 => k_is)
    (case xg6 => k_is)
    (case xh6 => k_is)
    (case xc6 => k_is)
    (case xn6 => k_is)
    (case xk6 => k_is)
    (case xt6 => k_is)
    (case xi6 => k_is)
    (case xj6 => k_is)
    (case xf6 => k_is)
    (case xd6 => k_is)
    (case xp6 => k_is)
    (case xa7 => k_is)
    (case xl7 => k_is)
    (case xs7 => k_is)
    (case xg7 => k_is)
    (case xh7 => k_is)
    (case xc7 => k_is)
    (case xn7 => k_is)
    (case xk7 => k_is)
    (case xt7 => k_is)
    (case xi7 => k_is)
    (case xj7 => k_is)
    (case xf7 => k_is)
    (case xd7 => k_is)
    (case xp7 => k_is)
    (case xa8 => k_is)
    (case xl8 => k_is)
    (case xs8 => k_is)
    (case xg8 => k_is)
    (case xh8 => k_is)
    (case xc8 => k_is)
    (case xn8 => k_is)
    (case xk8 => k_is)
    (case xt8 => k_is)
    (case xi8 => k_is)
    (case xj8 => k_is)
    (case xf8 => k_is)
    (case xd8 => k_is)
    (case xp8 => k_is)
    (case xa9 => k_is)
    (case xl9 => k_is)
    (case xs9 => k_is)
    (case xg9 => k_is)
    (case xh9 => k_is)
    (case xc9 => k_is)
    (case xn9 => k_is)
    (case xk9 => k_is)
    (case xt9 => k_is)
    (case xi9 => k_is)
    (case xj9 => k_is)
    (case xf9 => k_is)
    (case xd9 => k_is)
    (case xp9 => k_is)
    (case xa10 => k_is)
    (case xl10 => k_is)
    (case xs10 => k_is)
    (case xg10 => k_is)
    (case xh10 => k_is)
    (case xc10 => k_is)
    (case xn10 => k_is)
    (case xk10 => k_is)
    (case xt10 => k_is)
    (case xi10 => k_is)
    (case xj10 => k_is)
    (case xf10 => k_is)
    (case xd10 => k_is)
    (case xp10 => k_is)
    (case xa11 => k_is)
    (case xl11 => k_is)
    (case xs11 => k_is)
    (case xg11 => k_is)
    (case xh11 => k_is)
    (case xc11 => k_is)
    (case xn11 => k_is)
    (case xk11 => k_is)
    (case xt11 => k_is)
    (case xi11 => k_is)
    (case xj11 => k_is)
    (case xf11 => k_is)
    (case xd11 => k_is)
    (case xp11 => k_is)
    (case xa12 => k_is)
    (case xl12 => k_is)
    (case xs12 => k_is)
    (case xg12 => k_is)
    (case xh12 => k_is)
    (case xc12 => k_is)
    (case xn12 => k_is)
    (case xk12 => k_is)
    (case xt12 => k_is)
    (case xi12 => k_is)
    (case xj12 => k_is)
    (case xf12 => k_is)
    (case xd12 => k_is)
    (case xp12 => k_is)
    (case xa13 => k_is)
    (case xl13 => k_is)
    (case xs13 => k_is)
    (case xg13 => k_is)
    (case xh13 => k_is)
    (case xc13 => k_is)
    (case xn13 => k_is)
    (case xk13 => k_is)
    (case xt13 => k_is)
    (case xi13 => k_is)
    (case xj13 => k_is)
    (case xf13 => k_is)
    (case xd13 => k_is)
    (case xp13 => k_is)
    (case dis => decide)
