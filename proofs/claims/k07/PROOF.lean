import PyProof.Rows.All
import Wide.All
import OpenK.AllK
import Wide.FinOn
import HandS.ForMost
import HandS.Exc
import HandS.TryOnly
import HandS.ExcOwn
import HandS.WordsExc
import HandS.FStr
import HandS.IsInst
import HandS.SortInts
import HandS.RaiseMore
import PyProof.ReprRoads
import PyProof.Rows.StrIntSpec
import PyProof.ListStr
import PyProof.StrOps2
import HandS.Conv
import KE.GoesMore
import KE.GoesEnum
import HandS.Style
import PyProof.EqAt
import PyProof.EqKinds
import PyProof.TupleCall
import Open.SpecLaws
import KE.OsGo
import HandS.ForSpec
import HandS.ExcIs
import HandS.Set
import HandS.Strs
import PyProof.Rows.SetFrom
import HandS.TupAny
import HandS.Zip
import HandS.SetKeys
import HandS.Text
import HandS.Small
import HandS.Comp
import PyProof.Rows.SortShellAny
import HandS.SetBool
import HandS.TupSets
import PyProof.Rows.SeqMore
import KE.KSortTupG
import KE.DataEq
import PySem.Challenge.RW_risingsheets_k07_whole_calls_of_all_stat
set_option Elab.async false
set_option linter.all false
set_option maxRecDepth 100000
set_option maxHeartbeats 4000000

/-! ## Defs that run where no guard stands (so that repr of a list or tuple is known) -/
namespace Dl
open PySem PySem.Spec PyProof.Rows L2

structure FnG (P : Program) (w : World) (K : PySem.W.Frag) (mg : Str → Option Value) (base : Heap) (C : CXT) (k : Nat)
    (f : Addr) (fd : FuncData) (ps : List Str) (sp : Sp) : Prop where
  len : ∀ vs H Q E, sp vs H Q E → vs.length = ps.length
  run : ∀ (A : Around) (outer : List Env) (s : Shared) (H : Hp) (args : Args) (us : List Value) (vs : List V) (Q : VK) (E : XK),
    A.guards = some [] → Room k A → Env0 P w K mg base A outer s H → BindsTo s fd args (ps.zip us) → Vals vs us → sp vs H Q E →
    codeAny (model P w) A (.call (.ref f) args) (CR C outer P w H s Q E) s

section
variable {P : Program} {w : World} {K : PySem.W.Frag} {mg : Str → Option Value} {base : Heap} {C : CXT}

theorem FnG.of {k : Nat} {f : Addr} {fd : FuncData} {ps : List Str} {sp : Sp} (F : FnOk P w K mg base C k f fd ps sp) :
    FnG P w K mg base C k f fd ps sp :=
  ⟨F.len, fun A outer s H args us vs Q E _ => F.run A outer s H args us vs Q E⟩

theorem fun_okG {x qual : Str} {st : Stmt} {f : Addr} {fd : FuncData} {N ps : List Str} {k : Nat} {sp : Sp}
    (F : Fun K x qual st f fd) (S : FnScope N ps (defScope st)) (len : ∀ vs H Q E, sp vs H Q E → vs.length = ps.length)
    (hb : ∀ (cdv : Value) (A : Around) (outer : List Env) (s : Shared) (H : Hp) (vs : List V) (Q : VK) (E : XK),
      A.guards = some [] → Room k (A.deeper (envOfC qual (defScope st) s.heap.objs.size f cdv)) → sp vs H Q E →
      ∃ t, PSs (cxOf C P w K mg base N qual (defScope st) f cdv A outer s H E) (defBody st) t ∧
        t { nx := fun _ H' => Q .non H', rt := Q } (start N vs) H) :
    FnG P w K mg base C (k + 1) f fd ps sp := by
  obtain ⟨oc, od, kV, doc, pm, an, cdv, ct, osl, rfl, lk, hcd⟩ := F.ex
  constructor
  · exact len
  · intro A outer s H args us vs Q E hg room e0 bnd rel want
    have hlen := len _ _ _ _ want
    have stays : ∀ b o, base.get? b = some o → s.heap.get? b = some o := fun b o e => (e0.bs b o e).1
    have inK : K.In s.heap := e0.mod.kin.keeps stays
    apply codeAny_call_function room.depth (inK _ _ lk) rfl S.co S.gen rfl (PySem.W.codeRec_of inK hcd)
    apply bnd
    apply wpAny_newFunctionEnv_cells S.kind
    · rintro ⟨n, v⟩ hy
      have hp := S.par n (List.of_mem_zip hy).1
      cases hp with
      | inl q => exact Or.inl q
      | inr q => exact Or.inr ⟨q, PySem.W.cellsFrom_some _ _ _ (Or.inl q)⟩
    · intro env he s1 entered
      subst he
      constructor
      · exact (e0.mod.nolimit.keeps stays).keeps entered.toInCall.keep
      · apply codeAny_func
        obtain ⟨t, ht, hq⟩ := hb cdv A outer s H vs Q E hg (room.deeper _) want
        have J0 := inv_start (CX := C) (E := E) S room.hd e0 hlen rel entered
        apply wpAny_mono (ht.run [] s1 (start N vs) H _ J0 hq)
        · intro fl s' hs
          match fl, hs with
          | .ret u, ⟨v, _, H', J, rv, q⟩ => exact ⟨v, H', J.os, J.bare, J.base, J.hok, rv, q⟩
          | .next, ⟨_, H', J, q⟩ => exact ⟨V.non, H', J.os, J.bare, J.base, J.hok, rfl, q⟩
          | .brk, ⟨_, _, _, q⟩ => exact q.elim
          | .cont, ⟨_, _, _, q⟩ => exact q.elim
        · intro e s' hs
          exact hs

end

theorem fun_okG0 {P : Program} {w : World} {K : PySem.W.Frag} {mg : Str → Option Value} {base : Heap} {x qual : Str} {st : Stmt} {f : Addr} {fd : FuncData} {N ps : List Str} {k : Nat} {sp : Sp}
    (F : Fun K x qual st f fd) (S : FnScope N ps (defScope st)) (len : ∀ vs H Q E, sp vs H Q E → vs.length = ps.length)
    (hb : ∀ (cdv : Value) (A : Around) (outer : List Env) (s : Shared) (H : Hp) (vs : List V) (Q : VK) (E : XK),
      A.guards = some [] → Room k (A.deeper (envOfC qual (defScope st) s.heap.objs.size f cdv)) → sp vs H Q E →
      ∃ t, PSs (cxOf CX0 P w K mg base N qual (defScope st) f cdv A outer s H E).nox (defBody st) t ∧
        t { nx := fun _ H' => Q .non H', rt := Q } (start N vs) H) :
    FnG P w K mg base CX0 (k + 1) f fd ps sp :=
  fun_okG F S len fun cdv A outer s H vs Q E hg hr h => by
    obtain ⟨t, ht, q⟩ := hb cdv A outer s H vs Q E hg hr h
    exact ⟨t, ht.nox, q⟩

section
variable {X : Cx} {C : CXT} {k : Nat} {f : Addr} {fd : FuncData} {ps : List Str} {sp : Sp} {ds : List Value} {dvs : List V} {E : XK}
  {x : Str} {p pos : Pos} {e : Expr} {es : List Expr} {t : TA}

theorem pe_callG (hgd : X.A.guards = some []) (F : FnG X.prog X.w X.K X.mg X.base C k f fd ps sp) (hr : Room k X.A) (hg : Gl X x)
    (hm : X.mg x = some (.ref f)) (hk : PySem.W.keepIn X.K (.ref f) = true) (hb : Binds X.K fd ps ds) (hd : Vals dvs ds)
    (hx : Passes C X E) (ha : PA X (e :: es) t) (hdb : (x == ("__debug__" : Str)) = false := by decide)
    (he : starEach (e :: es) X.env = (false, eval e X.env) :: starEach es X.env := by rfl)
    (hpl : (backTo pos (starEach es X.env)).any (·.1) = false := by rfl) :
    PE X (.Call (.Name x p) (e :: es) [] pos) (tCall sp dvs E t) := by
  constructor
  intro pins s σ H Q I h
  apply wpAny_Call_Name_kw (ld_glob I hg hm ?_ hdb)
  apply PySem.W.callWith_K (h₀ := X.base) I.ok.mod.kin hk (thn (ha.run pos pins s σ H _ I h) ?_) he hpl
  rintro us s1 ⟨vs, H1, I1, r, q⟩
  refine ⟨I1.kIn, ?_⟩
  have rr : Vals (vs ++ dvs) (us ++ ds) := r.append hd
  have hl : (us ++ ds).length = ps.length := rr.length.symm.trans (F.len _ _ _ _ q)
  apply wpAny_call
  apply codeAny_mono (F.run X.A X.stack s1 H1 ⟨us, []⟩ (us ++ ds) (vs ++ dvs) Q E hgd hr I1.env0 (hb s1 us I1.kIn hl) rr q)
  intro res s' hq
  match res, hq with
  | .error er, hq => exact hx pins σ H1 s1 er s' I1 hq
  | .ok (.ret u), hq => exact I1.after hq
  | .ok .next, hq => exact hq.elim
  | .ok .brk, hq => exact hq.elim
  | .ok .cont, hq => exact hq.elim
end

/-! ### the law's own head -/
section
variable {P : Program} {w : World} {K : PySem.W.Frag} {mg mb : Str → Option Value} {C : CXT} {k : Nat} {fa a : Addr} {fd : FuncData}
  {x : Str} {sp : Sp} {s1 : Shared} {vs : List Value} {ns : List Int}

/-- the abstract heap at the law's entry: the script, locked, if it is none of the module's own -/
theorem headG_core (KX : K.In s1.heap) (hns : s1.heap.Ns mainGlobals mg) (hb : s1.heap.Ns builtinsNs mb)
    (hbb : ∀ x : Str, x ≠ "__name__" → mb x = bootBuiltins x) (hlim : s1.heap.NoLimit) (hg : s1.gens = #[])
    (ha : s1.heap.get? a = some { cls := .type "list", data := .seq vs.toArray }) (hr : Room k callerA)
    (hdg : s1.heap.NoDigits)
    (F : ∀ base : Heap, K.In base → base.Ns mainGlobals mg → base.NoDigits → FnG P w K mg base C k fa fd [x] sp)
    (hbind : ∀ (s : Shared) (u : Value), BindsTo s fd ⟨[u], []⟩ [(x, u)])
    (hC : ∀ H e s', C [] H s1 (fun _ _ _ => False) e s' → False)
    (H : Hp) (hO : Only H) (hsp : sp [.ref a] H (fun v _ => v = .bl true) fun _ _ _ => False)
    (hok : HOk P w H s1.heap) (hA : ∀ b, H b ≠ none → b = a ∧ K.lookup b = none) :
    codeAny (model P w) callerA (.call (.ref fa) ⟨[.ref a], []⟩)
      (fun r s' => r = .ok (.ret (.bool true)) ∧ OldK s1.heap s'.heap ∧ s'.os = s1.os ∧ AllBare s'.gens) s1 := by
  have free : ∀ {b : Addr}, (H b ≠ none → False) → H b = none := fun {b} z => by
    cases q : H b with
    | none => rfl
    | some u => exact (z (by rw [q]; exact fun y => nomatch y)).elim
  have nsK : ∀ {b : Addr} {m : Str → Option Value}, s1.heap.Ns b m → (hidT s1.heap H).Ns b m := fun {b m} hm => by
    obtain ⟨o, es, ep, e, d, r⟩ := hm
    refine ⟨o, es, ep, hidT_get e (free fun z => ?_), d, r⟩
    obtain ⟨e1, _⟩ := hA b z
    subst e1
    rw [ha] at e
    cases e
    cases (show Data.seq vs.toArray _ = Data.dict es ep from d)
  have hKb : K.In (hidT s1.heap H) := fun b o e => hidT_get (KX b o e) (free fun z => by
    rw [(hA b z).2] at e
    cases e)
  obtain ⟨mc, l1, l2⟩ := hlim
  have hM : Mod K mg (hidT s1.heap H) := ⟨hKb, nsK hns, ⟨mb, nsK hb, hbb⟩, ⟨mc, nsK l1, l2⟩⟩
  have e0 : Env0 P w K mg (hidT s1.heap H) callerA [] s1 H := by
    refine ⟨rfl, hM, fun b o e => of_hidT e, Nat.le_of_eq (hidT_size _ _), trivial, fun b hb => ?_, hok, .of_eq hg⟩
    cases hb
  obtain ⟨md, g1, g2⟩ := hdg
  have run := (F _ hKb (nsK hns) ⟨md, nsK g1, g2⟩).run callerA [] s1 H ⟨[.ref a], []⟩ [.ref a] [.ref a] _ _ rfl hr e0 (hbind s1 (.ref a)) (.cons rfl .nil) hsp
  refine codeAny_mono run fun r s' h => ?_
  match r, h with
  | .error e, h => exact (hC H e s' h).elim
  | .ok .next, h => exact h.elim
  | .ok .brk, h => exact h.elim
  | .ok .cont, h => exact h.elim
  | .ok (.ret u), h =>
    obtain ⟨v, H', os, bare, un, hok', rv, q⟩ := h
    have q1 : v = .bl true := q
    subst q1
    have q2 : u = Value.bool true := rv
    subst q2
    refine ⟨rfl, OldK.of_keep fun b o e => ?_, os, bare⟩
    cases hO b with
    | inl z => exact un.keep b o e z (fun y => by cases y) (fun y => by cases y)
    | inr z =>
      obtain ⟨ob, xs, z⟩ := z
      have e1 := (hok b _ z).1
      rw [e] at e1
      cases e1
      exact (hok' b _ (un.frzs b o _ z)).1

theorem law_callG (KX : K.In s1.heap) (hns : s1.heap.Ns mainGlobals mg) (hb : s1.heap.Ns builtinsNs mb)
    (hbb : ∀ x : Str, x ≠ "__name__" → mb x = bootBuiltins x) (hlim : s1.heap.NoLimit) (hg : s1.gens = #[])
    (ha : s1.heap.get? a = some { cls := .type "list", data := .seq vs.toArray }) (hi : IntsAre vs ns) (hl : ns.length ≤ sizeLine)
    (hr : Room k callerA)
    (hdg : s1.heap.NoDigits)
    (F : ∀ base : Heap, K.In base → base.Ns mainGlobals mg → base.NoDigits → FnG P w K mg base C k fa fd [x] sp)
    (hbind : ∀ (s : Shared) (u : Value), BindsTo s fd ⟨[u], []⟩ [(x, u)])
    (hsp : ∀ H : Hp, Only H → SqL K H a (ns.map V.int) → sp [.ref a] H (fun v _ => v = .bl true) fun _ _ _ => False)
    (hC : ∀ H e s', C [] H s1 (fun _ _ _ => False) e s' → False) :
    codeAny (model P w) callerA (.call (.ref fa) ⟨[.ref a], []⟩)
      (fun r s' => r = .ok (.ret (.bool true)) ∧ OldK s1.heap s'.heap ∧ s'.os = s1.os ∧ AllBare s'.gens) s1 := by
  have core := headG_core KX hns hb hbb hlim hg ha hr hdg F hbind hC
  cases hk : K.lookup a with
  | some o =>
    have e := KX a o hk
    rw [ha] at e
    cases e
    let H0 : Hp := fun _ => none
    have O0 : Only H0 := fun _ => Or.inl rfl
    refine core H0 O0 (hsp H0 O0 (Or.inr ⟨_, vs.toArray, _, hk, rfl, rfl, rfl, ?_, ?_⟩)) (fun b u z => nomatch z) (fun b z => (z rfl).elim)
    · rw [List.size_toArray, hi.length]
      exact hl
    · have rv := vals_ints hi
      simpa using rv
  | none =>
    let scr : HO := .frz { cls := .type "list", data := .seq vs.toArray } (.lst (ns.map V.int))
    let H1 : Hp := fun b => if b = a then some scr else none
    have H1a : H1 a = some scr := if_pos rfl
    have H1n : ∀ b, b ≠ a → H1 b = none := fun b h => if_neg h
    have O1 : Only H1 := fun b => by
      by_cases h : b = a
      · subst h
        exact Or.inr ⟨_, _, H1a⟩
      · exact Or.inl (H1n b h)
    refine core H1 O1 (hsp H1 O1 (Or.inl (Or.inr ⟨_, H1a⟩))) (fun b u z => ?_) (fun b z => ?_)
    · by_cases h : b = a
      · subst h
        rw [H1a] at z
        cases z
        refine ⟨ha, ?_, vs, _, vals_ints hi, ha⟩
        rw [List.length_map]
        exact hl
      · rw [H1n b h] at z
        cases z
    · by_cases h : b = a
      · subst h
        exact ⟨rfl, hk⟩
      · exact (z (H1n b h)).elim
end

theorem walk_ofG {l : PySem.W.OpenLaw} {n k : Nat} {q : Program} {loose : List Str} {XP : (Str → Option Value) → Heap → Prop}
    {YP : World → Heap → Prop} {d : DefRec} {K : Params → PySem.W.Frag} {C : World → CXT} {sp : World → Sp} {x : Str}
    (hn : l.most = some n) (hn2 : n ≤ sizeLine) (hdf : d.params.defaults = []) (hr : Room k callerA)
    (hY : ∀ (w : World) (h : Heap), YP w h → (K w.params).In h)
    (F : ∀ (w : World) (mg : Str → Option Value) (fa : Addr) (h : Heap), (K w.params).In h → h.Ns mainGlobals mg → mg d.name = some (.ref fa) →
      ∃ fd : FuncData, (∀ (s : Shared) (u : Value), BindsTo s fd ⟨[u], []⟩ [(x, u)]) ∧
        ∀ base : Heap, (K w.params).In base → base.Ns mainGlobals mg → base.NoDigits → FnG l.prog w (K w.params) mg base (C w) k fa fd [x] (sp w))
    (hsp : ∀ (w : World) (H : Hp) (a : Addr) (ns : List Int), ns.length ≤ n → Only H → SqL (K w.params) H a (ns.map V.int) →
      sp w [.ref a] H (fun v _ => v = .bl true) fun _ _ _ => False)
    (hC : ∀ (w : World) (H : Hp) (s : Shared) (e : Value) (s' : Shared), C w [] H s (fun _ _ _ => False) e s' → False) :
    PySem.W.WalkO q loose XP YP l.row.toRowW d [] (fun f vs => PySem.call f vs) := by
  apply Att.attach_call hn hdf
  intro w s0 s1 mg mb fa o pm cd doc a vs ns G Y ho hd hcd hmg hobj hints hlen hg
  have KX := hY w _ Y
  obtain ⟨fd, hb, hF⟩ := F w mg fa _ KX G.T.g hmg
  exact law_callG KX G.T.g G.T.b G.T.builtins G.T.nolimit hg hobj hints (Nat.le_trans hlen hn2) hr G.T.nodigits hF hb
    (fun H hO hS => hsp w H a ns hlen hO hS) (fun H e s' => hC w H s1 e s')
end Dl

/-! ## Data that stands still, and a logic of blocks over it -/
namespace Dl
open PySem PySem.Spec PyProof.Rows L2

/-! ### data -/
/-- a key as data -/
def kD : Key → PyData
  | .inl i => .int i
  | .inr z => .str z
mutual
inductive Dq (K : PySem.W.Frag) (D : Hp) : V → PyData → Prop
  | non : Dq K D .non .none
  | bl (b : Bool) : Dq K D (.bl b) (.bool b)
  | int (i : Int) : Dq K D (.int i) (.int i)
  | str (x : Str) : Dq K D (.str x) (.str x)
  | lst {a : Addr} {xs : List V} {ds : List PyData} : SqL K D a xs → DqA K D xs ds → Dq K D (.ref a) (.list ds)
  | tup {a : Addr} {xs : List V} {ds : List PyData} : SqT K D a xs → DqA K D xs ds → Dq K D (.ref a) (.tuple ds)
  | dic {a : Addr} {ks : List Key} {xs : List V} {ds : List PyData} : Rd D a (.dK (ks.zip xs)) → ks.length = xs.length → DqA K D xs ds → Dq K D (.ref a) (.dict ((ks.map kD).zip ds))
inductive DqA (K : PySem.W.Frag) (D : Hp) : List V → List PyData → Prop
  | nil : DqA K D [] []
  | cons {v : V} {vs : List V} {d : PyData} {ds : List PyData} : Dq K D v d → DqA K D vs ds → DqA K D (v :: vs) (d :: ds)
end

theorem same_rd {H H' : Hp} {a : Addr} {u : HO} (e : Same H H') (h : Rd H a u) : Rd H' a u := by
  cases h with
  | inl h => exact Or.inl (e a _ h)
  | inr h =>
    obtain ⟨o, h⟩ := h
    exact Or.inr ⟨o, e a _ h⟩
theorem same_l {K : PySem.W.Frag} {H H' : Hp} {a : Addr} {xs : List V} (e : Same H H') (h : SqL K H a xs) : SqL K H' a xs :=
  h.elim (fun h => Or.inl (same_rd e h)) Or.inr
theorem same_t {K : PySem.W.Frag} {H H' : Hp} {a : Addr} {xs : List V} (e : Same H H') (h : SqT K H a xs) : SqT K H' a xs :=
  h.elim (fun h => Or.inl (same_rd e h)) Or.inr

section
variable {K : PySem.W.Frag} {D D' : Hp}
mutual
theorem Dq.mono (e : Same D D') : ∀ {d : PyData} {v : V}, Dq K D v d → Dq K D' v d
  | _, _, .non => .non
  | _, _, .bl b => .bl b
  | _, _, .int i => .int i
  | _, _, .str x => .str x
  | _, _, .lst h1 h2 => .lst (same_l e h1) (DqA.mono e h2)
  | _, _, .tup h1 h2 => .tup (same_t e h1) (DqA.mono e h2)
  | _, _, .dic h1 hl h2 => .dic (same_rd e h1) hl (DqA.mono e h2)
theorem DqA.mono (e : Same D D') : ∀ {ds : List PyData} {vs : List V}, DqA K D vs ds → DqA K D' vs ds
  | _, _, .nil => .nil
  | _, _, .cons h1 h2 => .cons (Dq.mono e h1) (DqA.mono e h2)
end
theorem Dq.dictI {v : V} {kvs : List (PyData × PyData)} (h : Dq K D v (.dict kvs)) : ∃ (a : Addr) (ks : List Key) (xs : List V) (ds : List PyData), v = .ref a ∧ Rd D a (.dK (ks.zip xs)) ∧ ks.length = xs.length ∧ DqA K D xs ds ∧ kvs = (ks.map kD).zip ds := by
  generalize e : PyData.dict kvs = d at h
  cases h with
  | dic h1 h2 h3 =>
    cases e
    exact ⟨_, _, _, _, rfl, h1, h2, h3, rfl⟩
  | _ => cases e
theorem Dq.up {d : PyData} {v : V} (h : Dq K D v d) (e : Same D D') : Dq K D' v d := Dq.mono e h
theorem DqA.up {ds : List PyData} {vs : List V} (h : DqA K D vs ds) (e : Same D D') : DqA K D' vs ds := DqA.mono e h
theorem DqA.len : ∀ {vs : List V} {ds : List PyData}, DqA K D vs ds → vs.length = ds.length
  | _, [], h => by cases h; rfl
  | _, _ :: _, h => by
    cases h with
    | cons _ h2 => rw [List.length_cons, List.length_cons, h2.len]
theorem DqA.app : ∀ {vs us : List V} {ds es : List PyData}, DqA K D vs ds → DqA K D us es → DqA K D (vs ++ us) (ds ++ es)
  | _, _, [], _, h, h' => by cases h; exact h'
  | _, _, _ :: _, _, h, h' => by
    cases h with
    | cons h1 h2 => exact .cons h1 (h2.app h')
theorem DqA.at : ∀ {vs : List V} {ds : List PyData} {i : Nat} {d : PyData}, DqA K D vs ds → ds[i]? = some d → ∃ v, vs[i]? = some v ∧ Dq K D v d
  | _, [], _, _, _, e => by simp at e
  | _, _ :: _, 0, _, h, e => by
    cases h with
    | cons h1 _ =>
      cases e
      exact ⟨_, rfl, h1⟩
  | _, _ :: _, i + 1, _, h, e => by
    cases h with
    | cons _ h2 => exact h2.at (i := i) e
theorem DqA.atV {vs : List V} {ds : List PyData} {i : Nat} {v : V} (h : DqA K D vs ds) (e : vs[i]? = some v) : ∃ d, ds[i]? = some d ∧ Dq K D v d := by
  have hl := h.len
  have hi : i < vs.length := (List.getElem?_eq_some_iff.mp e).1
  obtain ⟨d, hd⟩ : ∃ d, ds[i]? = some d := ⟨ds[i], List.getElem?_eq_getElem (by omega)⟩
  obtain ⟨v', e', q⟩ := h.at hd
  rw [e] at e'
  cases e'
  exact ⟨d, hd, q⟩
theorem DqA.ints : ∀ (ns : List Int), DqA K D (ns.map V.int) (ns.map PyData.int)
  | [] => .nil
  | n :: ns => .cons (.int n) (DqA.ints ns)
theorem DqA.isInts : ∀ {vs : List V} (ns : List Int), DqA K D vs (ns.map PyData.int) → vs = ns.map V.int
  | _, [], h => by cases h; rfl
  | _, n :: ns, h => by
    cases h with
    | cons h1 h2 =>
      cases h1
      rw [h2.isInts ns]
      rfl
theorem DqA.isStrs : ∀ {vs : List V} (ns : List Str), DqA K D vs (ns.map PyData.str) → vs = ns.map V.str
  | _, [], h => by cases h; rfl
  | _, n :: ns, h => by
    cases h with
    | cons h1 h2 =>
      cases h1
      rw [h2.isStrs ns]
      rfl
theorem DqA.strs : ∀ (ns : List Str), DqA K D (ns.map V.str) (ns.map PyData.str)
  | [] => .nil
  | n :: ns => .cons (.str n) (DqA.strs ns)
theorem DqA.isBools : ∀ {vs : List V} (ns : List Bool), DqA K D vs (ns.map PyData.bool) → vs = ns.map V.bl
  | _, [], h => by cases h; rfl
  | _, n :: ns, h => by
    cases h with
    | cons h1 h2 =>
      cases h1
      rw [h2.isBools ns]
      rfl
theorem DqA.take (n : Nat) : ∀ {vs : List V} {ds : List PyData}, DqA K D vs ds → DqA K D (vs.take n) (ds.take n) := by
  induction n with
  | zero => intro vs ds _; exact .nil
  | succ n ih =>
    intro vs ds h
    cases h with
    | nil => exact .nil
    | cons h1 h2 => exact .cons h1 (ih h2)
theorem DqA.drop (n : Nat) : ∀ {vs : List V} {ds : List PyData}, DqA K D vs ds → DqA K D (vs.drop n) (ds.drop n) := by
  induction n with
  | zero => intro vs ds h; exact h
  | succ n ih =>
    intro vs ds h
    cases h with
    | nil => exact .nil
    | cons h1 h2 => exact ih h2
theorem DqA.setAt : ∀ {vs : List V} {ds : List PyData} (i : Nat) {v : V} {d : PyData}, DqA K D vs ds → Dq K D v d → DqA K D (vs.set i v) (ds.set i d)
  | _, [], _, _, _, h, _ => by cases h; exact .nil
  | _, _ :: _, 0, _, _, h, q => by
    cases h with
    | cons _ h2 => exact .cons q h2
  | _, _ :: _, i + 1, _, _, h, q => by
    cases h with
    | cons h1 h2 => exact .cons h1 (h2.setAt i q)
end

section
variable {X : Cx} {pins : List (Addr × Obj)} {σ : L2.St} {H : Hp} {s : Shared}
theorem keys_read {h : Heap} {P : Program} {w : World} : ∀ {es : List DictEntry} {ks : List Key} {us : List Value}, ks.length = us.length → Pairs (mixKind P w) es (ks.zip us) → ∃ as, ReadsAll h (es.map (·.key)) (ks.map kD) as ∧ as = []
  | _, [], _, _, h => by
    cases h
    exact ⟨_, ReadsAll.nil, rfl⟩
  | _, k :: ks, [], hl, h => by cases hl
  | _, k :: ks, u :: us, hl, h => by
    cases h with
    | cons h1 h2 h3 =>
      obtain ⟨as, q, e⟩ := keys_read (by simpa using hl) h3
      subst e
      rcases keyIs_shape (show keyIs k _ = true from h1) with ⟨i, t, rfl, e2⟩ | ⟨x, t, rfl, e2⟩
      · exact ⟨_, ReadsAll.cons (by dsimp only; rw [e2]; exact Reads.int i t) q, rfl⟩
      · exact ⟨_, ReadsAll.cons (by dsimp only; rw [e2]; exact Reads.str x t) q, rfl⟩
theorem vals_pairs {P : Program} {w : World} : ∀ {es : List DictEntry} {ks : List Key} {us : List Value}, ks.length = us.length → Pairs (mixKind P w) es (ks.zip us) → es.map (·.val) = us
  | _, [], [], _, h => by
    cases h
    rfl
  | _, [], _ :: _, hl, h => by cases hl
  | _, k :: ks, [], hl, h => by cases hl
  | _, k :: ks, u :: us, hl, h => by
    cases h with
    | cons h1 h2 h3 =>
      rw [List.map_cons, vals_pairs (by simpa using hl) h3, h2]
theorem kv_zip {ks : List Key} : ∀ {xs : List V} {vs : List (Key × Value)}, ks.length = xs.length → KV (ks.zip xs) vs → ∃ us, vs = ks.zip us ∧ ks.length = us.length ∧ Vals xs us := by
  induction ks with
  | nil =>
    intro xs vs hl h
    cases xs with
    | nil =>
      cases h
      exact ⟨[], rfl, rfl, .nil⟩
    | cons x xs => cases hl
  | cons k ks ih =>
    intro xs vs hl h
    cases xs with
    | nil => cases hl
    | cons x xs =>
      cases h with
      | @cons _ q _ _ h1 h2 =>
        obtain ⟨us, e1, e2, e3⟩ := ih (by simpa using hl) h2
        obtain ⟨q1, q2⟩ := q
        obtain ⟨e4, e5⟩ := h1
        have e4 : k = q1 := e4
        subst e4
        exact ⟨q2 :: us, by rw [e1]; rfl, by rw [List.length_cons, List.length_cons, e2], .cons e5 e3⟩
mutual
theorem Dq.reads (I : Inv X pins σ H s) : ∀ {d : PyData} {v : V} (u : Value), Dq X.K H v d → RelV v u → ∃ as, Reads s.heap u d as
  | _, _, _, .non, r => by
    cases (show _ = Value.none from r)
    exact ⟨_, Reads.none⟩
  | _, _, _, .bl b, r => by
    cases (show _ = Value.bool b from r)
    exact ⟨_, Reads.bool b⟩
  | _, _, _, .int i, r => by
    obtain ⟨t, rfl⟩ := r
    exact ⟨_, Reads.int i t⟩
  | _, _, _, .str x, r => by
    obtain ⟨t, rfl⟩ := r
    exact ⟨_, Reads.str x t⟩
  | _, _, _, .lst h1 h2, r => by
    cases r
    obtain ⟨its, rv, ⟨o, n, e1, e2, _, e3⟩, _⟩ := I.list h1
    obtain ⟨as, q⟩ := DqA.reads I its h2 rv
    exact ⟨_, Reads.list e1 e2 e3 q⟩
  | _, _, _, .tup h1 h2, r => by
    cases r
    obtain ⟨its, rv, ⟨o, e1, e2, n, e3⟩, _⟩ := I.tuple h1
    obtain ⟨as, q⟩ := DqA.reads I its h2 rv
    exact ⟨_, Reads.tuple e1 e2 e3 q⟩
  | _, _, _, .dic h1 hl h2, r => by
    cases r
    obtain ⟨_, _, vs, kv, o, es, ep, e1, ⟨c1, _, _⟩, e2, _, pr, _⟩ := h1.ok I.hok
    obtain ⟨us, e3, e4, rv⟩ := kv_zip hl kv
    subst e3
    obtain ⟨as, q⟩ := DqA.reads I us h2 rv
    obtain ⟨bs, q2, _⟩ := keys_read (h := s.heap) e4 pr
    have lk := h2.len
    refine ⟨_, Reads.dict e1 c1 e2 (as := bs) (bs := as) ?_ ?_⟩
    · rw [List.map_fst_zip (by rw [List.length_map]; omega)]
      exact q2
    · rw [vals_pairs e4 pr, List.map_snd_zip (by rw [List.length_map]; omega)]
      exact q
theorem DqA.reads (I : Inv X pins σ H s) : ∀ {ds : List PyData} {vs : List V} (us : List Value), DqA X.K H vs ds → Vals vs us → ∃ as, ReadsAll s.heap us ds as
  | _, _, _, .nil, r => by
    cases r
    exact ⟨_, ReadsAll.nil⟩
  | _, _, _, .cons h1 h2, r => by
    cases r with
    | cons r1 r2 =>
      obtain ⟨as, q1⟩ := Dq.reads I _ h1 r1
      obtain ⟨bs, q2⟩ := DqA.reads I _ h2 r2
      exact ⟨_, ReadsAll.cons q1 q2⟩
end
end

section
variable {X : Cx}
/-- == and != of data -/
def rEqQ (K : PySem.W.Frag) (neg : Bool) : R2 := fun x y H Q => ∃ d e, Dq K H x d ∧ Dq K H y e ∧ SeqAt.shaped d = true ∧ SeqAt.shaped e = true ∧
  Q (.bl (if neg = true then !PyData.eqv d e else PyData.eqv d e)) H
theorem op_eqQ (hu : X.A.units + 64 < cLine) : OpR X (compareOp .Eq) (rEqQ X.K false) := by
  intro pins s σ H x y v u Q I rx ry h
  obtain ⟨d, e, hd, he, sd, se, q⟩ := h
  obtain ⟨as, r1⟩ := Dq.reads I v hd rx
  obtain ⟨bs, r2⟩ := Dq.reads I u he ry
  exact SeqAt.compareEq_shaped r1 r2 sd se hu ⟨.bl (PyData.eqv d e), H, I, rfl, q⟩
theorem op_neQ (hu : X.A.units + 64 < cLine) : OpR X (compareOp .NotEq) (rEqQ X.K true) := by
  intro pins s σ H x y v u Q I rx ry h
  obtain ⟨d, e, hd, he, sd, se, q⟩ := h
  obtain ⟨as, r1⟩ := Dq.reads I v hd rx
  obtain ⟨bs, r2⟩ := Dq.reads I u he ry
  exact SeqAt.compareNe_shaped r1 r2 sd se hu ⟨.bl (!PyData.eqv d e), H, I, rfl, q⟩
/-- repr of data, where no guard stands -/
def rRepr (K : PySem.W.Frag) : List V → Hp → VK → Prop := fun xs H Q => ∃ x d, xs = [x] ∧ Dq K H x d ∧ d.showable = true ∧ d.hasDict = false ∧ d.depth ≤ 60 ∧
  d.shown.length ≤ sizeLine ∧ Q (.str d.shown) H
theorem call_reprQ (hg : X.A.guards = some []) (hu : X.A.units + 64 < cLine) : CallR X (.builtin "repr") (rRepr X.K) := by
  intro pins s σ H xs us Q I r h
  obtain ⟨x, d, rfl, hd, h1, h2, h3, h4, q⟩ := h
  obtain ⟨u, rfl, ru⟩ := vals1 r
  obtain ⟨as, rd⟩ := Dq.reads I u hd ru
  cases d with
  | none =>
    cases hd
    cases (show u = Value.none from ru)
    exact PySem.P.repr_of_none ⟨.str "None", H, I.tok _, ⟨_, rfl⟩, q⟩
  | bool b =>
    cases hd
    cases (show u = Value.bool b from ru)
    exact PySem.P.repr_of_bool ⟨.str (if b then "True" else "False"), H, I.tok _, ⟨_, rfl⟩, q⟩
  | int i =>
    cases hd
    obtain ⟨t, rfl⟩ := ru
    exact PySem.P.repr_of_int (of_decide_eq_true h1) ⟨.str (toString i), H, I.tok _, ⟨_, rfl⟩, q⟩
  | str y =>
    cases hd
    obtain ⟨t, rfl⟩ := ru
    exact PySem.P.repr_of_str ⟨.str (reprText y), H, I.tok _, ⟨_, rfl⟩, q⟩ h4
  | list ds =>
    cases hd
    cases ru
    refine repr_of_reads' rd h1 (PyData.noDict_hsm h2) hg (by omega) (fun _ _ e => e) (fun h' u tk hk => ?_) h4
    exact ⟨.str _, H, I.kept hk, ⟨_, rfl⟩, q⟩
  | tuple ds =>
    cases hd
    cases ru
    refine repr_of_reads' rd h1 (PyData.noDict_hsm h2) hg (by omega) (fun _ _ e => e) (fun h' u tk hk => ?_) h4
    exact ⟨.str _, H, I.kept hk, ⟨_, rfl⟩, q⟩
  | dict kvs =>
    cases hd
    cases h2
end
end Dl

/-! ## The logic -/
namespace Dl
open PySem PySem.Spec L2

/-- what a def may change besides what it makes: the objects at adr, under inv -/
structure Fx where
  root : V
  adr : Addr → Prop
  inv : Hp → Prop
  keep : ∀ H H', inv H → (∀ a o, adr a → H a = some o → H' a = some o) → inv H'
  has : ∀ H a, inv H → adr a → H a ≠ none

def Fx.non : Fx := ⟨.non, fun _ => False, fun _ => True, fun _ _ _ _ => trivial, fun _ _ _ h => h.elim⟩

structure Ok (W : Fx) (D H : Hp) : Prop where
  sub : Same D H
  inv : W.inv H
  off : ∀ a, W.adr a → D a = none

structure Step (W : Fx) (D H D' H' : Hp) : Prop where
  gro : Same D D'
  sub : Same D' H'
  off : ∀ a o, ¬ W.adr a → H a = some o → H' a = some o
  new : ∀ p, D p = none → H p ≠ none → D' p = none
  inv : W.inv H'

section
variable {W : Fx} {D H D1 H1 D2 H2 : Hp}
theorem Step.refl (o : Ok W D H) : Step W D H D H := ⟨Same.refl D, o.sub, fun _ _ _ h => h, fun _ h _ => h, o.inv⟩
theorem Step.ok (o : Ok W D H) (a : Step W D H D1 H1) : Ok W D1 H1 :=
  ⟨a.sub, a.inv, fun p h => a.new p (o.off p h) (W.has H p o.inv h)⟩
theorem Step.trans (o : Ok W D H) (a : Step W D H D1 H1) (b : Step W D1 H1 D2 H2) : Step W D H D2 H2 where
  gro := a.gro.trans b.gro
  sub := b.sub
  off := fun p u h e => b.off p u h (a.off p u h e)
  new := fun p h e => b.new p (a.new p h e) (by
    by_cases hw : W.adr p
    · exact W.has H1 p a.inv hw
    · cases q : H p with
      | none => exact (e q).elim
      | some u =>
        rw [a.off p u hw q]
        exact fun z => nomatch z)
  inv := b.inv
/-- a step that changes nothing that stood -/
theorem Step.kept (o : Ok W D H) (g : Same D D1) (s : Same D1 H1) (k : Same H H1) (n : ∀ p, D p = none → H p ≠ none → D1 p = none) : Step W D H D1 H1 :=
  ⟨g, s, fun p u _ e => k p u e, n, W.keep H H1 o.inv fun p u _ e => k p u e⟩
theorem Step.keptH (o : Ok W D H) (k : Same H H1) : Step W D H D H1 := .kept o (Same.refl D) (o.sub.trans k) k fun _ h _ => h
theorem same_new {p : Addr} {u : HO} (h : H p = none) : Same H (upd H p u) := fun b x e => by
  rw [upd_ne (ne_of_none e h)]
  exact e
theorem same_upd2 {p : Addr} {u : HO} (s : Same D H) : Same (upd D p u) (upd H p u) := fun b x e => by
  by_cases hb : b = p
  · subst hb
    rw [upd_same] at e ⊢
    exact e
  · rw [upd_ne hb] at e ⊢
    exact s b x e
/-- a new object that is data at once -/
theorem Step.made (o : Ok W D H) {p : Addr} {u : HO} (h : H p = none) : Step W D H (upd D p u) (upd H p u) :=
  .kept o (same_new (o.sub.free h)) (same_upd2 o.sub) (same_new h) fun q h1 h2 => by
    rw [upd_ne (fun e => h2 (by rw [e]; exact h))]
    exact h1
/-- what stands new in H is data from now on -/
theorem Step.told (s : Step W D H D1 H1) {p : Addr} {u : HO} (h : H p = none) (h1 : D1 p = none) (e : H1 p = some u) : Step W D H (upd D1 p u) H1 where
  gro := s.gro.trans (same_new h1)
  sub := fun b x q => by
    by_cases hb : b = p
    · subst hb
      rw [upd_same] at q
      cases q
      exact e
    · rw [upd_ne hb] at q
      exact s.sub b x q
  off := s.off
  new := fun b q1 q2 => by
    rw [upd_ne (fun z => q2 (by rw [z]; exact h))]
    exact s.new b q1 q2
  inv := s.inv
end

/-- what is known of a slot -/
inductive Shp where
  | lst
  | dK (ks : List Key)
/-- an own object: a list of items, or a dict of keys and items -/
abbrev Shp.ho : Shp → List V → HO
  | .lst, xs => .lst xs
  | .dK ks, xs => .dK (ks.zip xs)
inductive Sk where
  | any
  | rt
  | dat (d : PyData)
  | ob (s : Shp) (ds : List PyData)
  | dd (f : Int → Option PyData)
abbrev Sk.own (ds : List PyData) : Sk := .ob .lst ds
abbrev Sk.kd (ks : List Key) (ds : List PyData) : Sk := .ob (.dK ks) ds

def SlotOk (K : PySem.W.Frag) (W : Fx) (H0 D H : Hp) (o : Option V) : Sk → Prop
  | .any => True
  | .rt => o = some W.root
  | .dat d => ∃ v, o = some v ∧ Dq K D v d
  | .ob s ds => ∃ l xs, o = some (.ref l) ∧ D l = none ∧ H0 l = none ∧ ¬ W.adr l ∧ H l = some (s.ho xs) ∧ DqA K D xs ds
  | .dd f => ∃ a kvs, o = some (.ref a) ∧ D a = some (.dK kvs) ∧ ∀ k : Int, (valV kvs (.inl k) = none ∧ f k = none) ∨ ∃ v d, valV kvs (.inl k) = some v ∧ f k = some d ∧ Dq K D v d

structure Env (K : PySem.W.Frag) (W : Fx) (D0 H0 D H : Hp) (σ : L2.St) (ρ : List Sk) : Prop where
  ok0 : Ok W D0 H0
  st : Step W D0 H0 D H
  slot : ∀ (i : Nat) k, ρ[i]? = some k → ∃ o, σ[i]? = some o ∧ SlotOk K W H0 D H o k
  dist : ∀ (i j : Nat) l s t ds es, ρ[i]? = some (.ob s ds) → ρ[j]? = some (.ob t es) → σ[i]? = some (some (.ref l)) → σ[j]? = some (some (.ref l)) → i = j

section
variable {K : PySem.W.Frag} {W : Fx} {D0 H0 D H D1 H1 : Hp} {σ : L2.St} {ρ : List Sk}
theorem Env.ok (e : Env K W D0 H0 D H σ ρ) : Ok W D H := e.st.ok e.ok0
theorem SlotOk.step {o : Option V} {k : Sk} (s : Step W D H D1 H1) (h : SlotOk K W H0 D H o k) : SlotOk K W H0 D1 H1 o k := by
  cases k with
  | any => trivial
  | rt => exact h
  | dat d =>
    obtain ⟨v, e, q⟩ := h
    exact ⟨v, e, q.up s.gro⟩
  | ob sh ds =>
    obtain ⟨l, xs, e, h1, h2, h3, h4, h5⟩ := h
    exact ⟨l, xs, e, s.new l h1 (by rw [h4]; exact fun z => nomatch z), h2, h3, s.off l _ h3 h4, h5.up s.gro⟩
  | dd f =>
    obtain ⟨a, kvs, e, h1, h2⟩ := h
    refine ⟨a, kvs, e, s.gro a _ h1, fun k => (h2 k).imp id fun ⟨v, d, q1, q2, q3⟩ => ⟨v, d, q1, q2, q3.up s.gro⟩⟩
theorem Env.step (e : Env K W D0 H0 D H σ ρ) (s : Step W D H D1 H1) : Env K W D0 H0 D1 H1 σ ρ where
  ok0 := e.ok0
  st := e.st.trans e.ok0 s
  slot := fun i k h => by
    obtain ⟨o, h1, h2⟩ := e.slot i k h
    exact ⟨o, h1, h2.step s⟩
  dist := e.dist
theorem Env.lt (e : Env K W D0 H0 D H σ ρ) {i : Nat} {k : Sk} (h : ρ[i]? = some k) : i < σ.length := by
  obtain ⟨o, h1, _⟩ := e.slot i k h
  exact (List.getElem?_eq_some_iff.mp h1).1
/-- a slot is given a value -/
theorem Env.set (e : Env K W D0 H0 D H σ ρ) {i : Nat} {v : V} {d : PyData} (hi : i < ρ.length) (q : Dq K D v d) : Env K W D0 H0 D H (σ.set i (some v)) (ρ.set i (.dat d)) where
  ok0 := e.ok0
  st := e.st
  slot := fun j k h => by
    have hσ : i < σ.length := e.lt (List.getElem?_eq_getElem hi)
    by_cases hj : i = j
    · subst hj
      rw [List.getElem?_set_self hi] at h
      cases h
      exact ⟨some v, List.getElem?_set_self hσ, v, rfl, q⟩
    · rw [List.getElem?_set_ne hj] at h
      obtain ⟨o, h1, h2⟩ := e.slot j k h
      exact ⟨o, by rw [List.getElem?_set_ne hj]; exact h1, h2⟩
  dist := fun j k l sh th ds es h1 h2 h3 h4 => by
    by_cases hj : i = j
    · subst hj
      rw [List.getElem?_set_self hi] at h1
      cases h1
    · by_cases hk : i = k
      · subst hk
        rw [List.getElem?_set_self hi] at h2
        cases h2
      · rw [List.getElem?_set_ne hj] at h1 h3
        rw [List.getElem?_set_ne hk] at h2 h4
        exact e.dist j k l sh th ds es h1 h2 h3 h4
/-- .. a list of its own -/
theorem Env.setOwn (e : Env K W D0 H0 D H σ ρ) {i : Nat} {l : Addr} {s : Shp} {xs : List V} {ds : List PyData} (hi : i < ρ.length) (h1 : D l = none) (h2 : H0 l = none) (h3 : ¬ W.adr l) (h4 : H l = some (s.ho xs)) (h5 : DqA K D xs ds)
    (ap : ∀ (j : Nat) t es, j ≠ i → ρ[j]? = some (.ob t es) → σ[j]? ≠ some (some (.ref l))) : Env K W D0 H0 D H (σ.set i (some (.ref l))) (ρ.set i (.ob s ds)) where
  ok0 := e.ok0
  st := e.st
  slot := fun j k h => by
    have hσ : i < σ.length := e.lt (List.getElem?_eq_getElem hi)
    by_cases hj : i = j
    · subst hj
      rw [List.getElem?_set_self hi] at h
      cases h
      exact ⟨_, List.getElem?_set_self hσ, l, xs, rfl, h1, h2, h3, h4, h5⟩
    · rw [List.getElem?_set_ne hj] at h
      obtain ⟨o, h1, h2⟩ := e.slot j k h
      exact ⟨o, by rw [List.getElem?_set_ne hj]; exact h1, h2⟩
  dist := fun j k m sh th ds' es h1' h2' h3' h4' => by
    have hσ : i < σ.length := e.lt (List.getElem?_eq_getElem hi)
    by_cases hj : i = j
    · by_cases hk : i = k
      · exact hj.symm.trans hk
      · subst hj
        rw [List.getElem?_set_self hσ] at h3'
        cases h3'
        rw [List.getElem?_set_ne hk] at h2' h4'
        exact (ap k th es (Ne.symm hk) h2' h4').elim
    · by_cases hk : i = k
      · subst hk
        rw [List.getElem?_set_self hσ] at h4'
        cases h4'
        rw [List.getElem?_set_ne hj] at h1' h3'
        exact (ap j sh ds' (Ne.symm hj) h1' h3').elim
      · rw [List.getElem?_set_ne hj] at h1' h3'
        rw [List.getElem?_set_ne hk] at h2' h4'
        exact e.dist j k m sh th ds' es h1' h2' h3' h4'
/-- a list of one's own is changed -/
theorem Env.writeO (e : Env K W D0 H0 D H σ ρ) {i : Nat} {l : Addr} {s t : Shp} {ds es : List PyData} {ys : List V} (hi : ρ[i]? = some (.ob s ds)) (hl : σ[i]? = some (some (.ref l))) (hy : DqA K D ys es) :
    Env K W D0 H0 D (upd H l (t.ho ys)) σ (ρ.set i (.ob t es)) := by
  obtain ⟨o, q1, q2⟩ := e.slot i _ hi
  rw [hl] at q1
  cases q1
  obtain ⟨l', xs, z, h1, h2, h3, h4, h5⟩ := q2
  cases z
  have hlen : i < ρ.length := (List.getElem?_eq_some_iff.mp hi).1
  refine ⟨e.ok0, ⟨e.st.gro, fun b x q => ?_, fun b x hb q => ?_, e.st.new, ?_⟩, fun j k h => ?_, fun j k m sh th ds' es' h1' h2' h3' h4' => ?_⟩
  · rw [upd_ne (fun z => by rw [z, h1] at q; cases q)]
    exact e.st.sub b x q
  · rw [upd_ne (fun z => by rw [z, h2] at q; cases q)]
    exact e.st.off b x hb q
  · refine W.keep H _ e.st.inv fun b x hb q => ?_
    rw [upd_ne (fun z => h3 (by rw [← z]; exact hb))]
    exact q
  · by_cases hj : i = j
    · subst hj
      rw [List.getElem?_set_self hlen] at h
      cases h
      exact ⟨_, hl, l, ys, rfl, h1, h2, h3, upd_same, hy⟩
    · rw [List.getElem?_set_ne hj] at h
      obtain ⟨o, p1, p2⟩ := e.slot j k h
      refine ⟨o, p1, ?_⟩
      cases k with
      | any => trivial
      | rt => exact p2
      | dat d => exact p2
      | dd f => exact p2
      | ob sh fs =>
        obtain ⟨m, zs, e1, r1, r2, r3, r4, r5⟩ := p2
        subst e1
        have hm : m ≠ l := fun z => hj (e.dist i j l s sh ds fs hi h hl (by rw [← z]; exact p1))
        exact ⟨m, zs, rfl, r1, r2, r3, by rw [upd_ne hm]; exact r4, r5⟩
  · have own_of : ∀ (j : Nat) sh fs, (ρ.set i (.ob t es))[j]? = some (.ob sh fs) → ∃ sg gs, ρ[j]? = some (.ob sg gs) := fun j sh fs h => by
      by_cases hj : i = j
      · subst hj
        exact ⟨_, _, hi⟩
      · rw [List.getElem?_set_ne hj] at h
        exact ⟨_, _, h⟩
    obtain ⟨s1, g1, k1⟩ := own_of j _ _ h1'
    obtain ⟨s2, g2, k2⟩ := own_of k _ _ h2'
    exact e.dist j k m s1 s2 g1 g2 k1 k2 h3' h4'
theorem Env.write (e : Env K W D0 H0 D H σ ρ) {i : Nat} {l : Addr} {ds es : List PyData} {ys : List V} (hi : ρ[i]? = some (.own ds)) (hl : σ[i]? = some (some (.ref l))) (hy : DqA K D ys es) :
    Env K W D0 H0 D (upd H l (.lst ys)) σ (ρ.set i (.own es)) := e.writeO (t := .lst) hi hl hy
theorem Env.setAny (e : Env K W D0 H0 D H σ ρ) {i : Nat} {v : Option V} (hi : i < ρ.length) : Env K W D0 H0 D H (σ.set i v) (ρ.set i .any) where
  ok0 := e.ok0
  st := e.st
  slot := fun j k h => by
    have hσ : i < σ.length := e.lt (List.getElem?_eq_getElem hi)
    by_cases hj : i = j
    · subst hj
      rw [List.getElem?_set_self hi] at h
      cases h
      exact ⟨v, List.getElem?_set_self hσ, trivial⟩
    · rw [List.getElem?_set_ne hj] at h
      obtain ⟨o, h1, h2⟩ := e.slot j k h
      exact ⟨o, by rw [List.getElem?_set_ne hj]; exact h1, h2⟩
  dist := fun j k l sh th ds es h1 h2 h3 h4 => by
    by_cases hj : i = j
    · subst hj
      rw [List.getElem?_set_self hi] at h1
      cases h1
    · by_cases hk : i = k
      · subst hk
        rw [List.getElem?_set_self hi] at h2
        cases h2
      · rw [List.getElem?_set_ne hj] at h1 h3
        rw [List.getElem?_set_ne hk] at h2 h4
        exact e.dist j k l sh th ds es h1 h2 h3 h4
end

/-! ### what evaluates to what -/
section
variable (K : PySem.W.Frag) (W : Fx)
def EvN (te : TE) (ρ : List Sk) (P : PyData → Prop) : Prop := ∀ D0 H0 D H σ, Env K W D0 H0 D H σ ρ → ∀ Q : VK,
  (∀ v D' H' d, Step W D H D' H' → Dq K D' v d → P d → Q v H') → te σ H Q
def EvT (tt : TT) (ρ : List Sk) (P : Bool → Prop) : Prop := ∀ D0 H0 D H σ, Env K W D0 H0 D H σ ρ → ∀ Q : Bool → Hp → Prop,
  (∀ b D' H', Step W D H D' H' → P b → Q b H') → tt σ H Q
def EvA (ta : TA) (ρ : List Sk) (P : List PyData → Prop) : Prop := ∀ D0 H0 D H σ, Env K W D0 H0 D H σ ρ → ∀ Q : List V → Hp → Prop,
  (∀ vs D' H' ds, Step W D H D' H' → DqA K D' vs ds → P ds → Q vs H') → ta σ H Q
/-- a new list -/
def EvF (te : TE) (ρ : List Sk) (P : List PyData → Prop) : Prop := ∀ D0 H0 D H σ, Env K W D0 H0 D H σ ρ → ∀ Q : VK,
  (∀ l xs D' H' ds, Step W D H D' H' → H l = none → D' l = none → H' l = some (.lst xs) → DqA K D' xs ds → P ds → Q (.ref l) H') → te σ H Q
/-- a list to be read -/
def EvB (te : TE) (ρ : List Sk) (P : List PyData → Prop) : Prop := ∀ D0 H0 D H σ, Env K W D0 H0 D H σ ρ → ∀ Q : VK,
  (∀ l xs D' H' ds, Step W D H D' H' → SqL K H' l xs → DqA K D' xs ds → P ds → Q (.ref l) H') → te σ H Q
/-- an operation on data -/
def RD (r : R2) (d1 d2 : PyData) (P : PyData → Prop) : Prop := ∀ D H x y, Ok W D H → Dq K D x d1 → Dq K D y d2 → ∀ Q : VK,
  (∀ v D' H' d, Step W D H D' H' → Dq K D' v d → P d → Q v H') → r x y H Q
/-- an expression that may raise -/
def EvR (EX : Hp → Prop) (te : TE) (ρ : List Sk) (P : PyData → Prop) (R : Prop) : Prop := ∀ D0 H0 D H σ, Env K W D0 H0 D H σ ρ → ∀ Q : VK,
  (∀ v D' H' d, Step W D H D' H' → Dq K D' v d → P d → Q v H') → (∀ D' H', Step W D H D' H' → R → EX H') → te σ H Q
def RC (r : List V → Hp → VK → Prop) (ds : List PyData) (P : PyData → Prop) : Prop := ∀ D H vs, Ok W D H → DqA K D vs ds → ∀ Q : VK,
  (∀ v D' H' d, Step W D H D' H' → Dq K D' v d → P d → Q v H') → r vs H Q
end

structure Out where
  nx : List Sk → Prop
  rt : PyData → Prop
  bk : List Sk → Prop := fun _ => False
  ct : List Sk → Prop := fun _ => False
  xr : Prop := False

/-- a block, in a def that began at D0, H0 -/
def StG (K : PySem.W.Frag) (W : Fx) (EX : Hp → Prop) (ts : TS) (ρ : List Sk) (O : Out) : Prop := ∀ D0 H0 D H σ (Dn : Ends), Env K W D0 H0 D H σ ρ →
  (∀ σ' D' H' ρ', Same D D' → Env K W D0 H0 D' H' σ' ρ' → O.nx ρ' → Dn.nx σ' H') →
  (∀ σ' D' H' ρ', Same D D' → Env K W D0 H0 D' H' σ' ρ' → O.bk ρ' → Dn.bk σ' H') →
  (∀ σ' D' H' ρ', Same D D' → Env K W D0 H0 D' H' σ' ρ' → O.ct ρ' → Dn.ct σ' H') →
  (∀ v D' H' d, Step W D0 H0 D' H' → Dq K D' v d → O.rt d → Dn.rt v H') →
  (∀ D' H', Step W D0 H0 D' H' → O.xr → EX H') → ts Dn σ H
end Dl

/-! ## The rules of the logic -/
namespace Dl
open PySem PySem.Spec L2

section
variable {K : PySem.W.Frag} {W : Fx} {ρ : List Sk} {P P1 P2 : PyData → Prop} {ta tb tc te : TE} {d d1 d2 : PyData}

abbrev EvD (K : PySem.W.Frag) (W : Fx) (te : TE) (ρ : List Sk) (d : PyData) : Prop := EvN K W te ρ (· = d)
theorem EvN.imp (h : EvN K W te ρ P1) (f : ∀ d, P1 d → P2 d) : EvN K W te ρ P2 := fun D0 H0 D H σ e Q q =>
  h D0 H0 D H σ e Q fun v D' H' d s r p => q v D' H' d s r (f d p)
theorem EvT.imp {tt : TT} {P1 P2 : Bool → Prop} (h : EvT K W tt ρ P1) (f : ∀ d, P1 d → P2 d) : EvT K W tt ρ P2 := fun D0 H0 D H σ e Q q =>
  h D0 H0 D H σ e Q fun v D' H' s p => q v D' H' s (f v p)
theorem EvA.imp {ta : TA} {P1 P2 : List PyData → Prop} (h : EvA K W ta ρ P1) (f : ∀ d, P1 d → P2 d) : EvA K W ta ρ P2 := fun D0 H0 D H σ e Q q =>
  h D0 H0 D H σ e Q fun v D' H' ds s r p => q v D' H' ds s r (f ds p)
theorem EvF.imp {P1 P2 : List PyData → Prop} (h : EvF K W te ρ P1) (f : ∀ d, P1 d → P2 d) : EvF K W te ρ P2 := fun D0 H0 D H σ e Q q =>
  h D0 H0 D H σ e Q fun l xs D' H' ds s a b c r p => q l xs D' H' ds s a b c r (f ds p)
theorem EvB.imp {P1 P2 : List PyData → Prop} (h : EvB K W te ρ P1) (f : ∀ d, P1 d → P2 d) : EvB K W te ρ P2 := fun D0 H0 D H σ e Q q =>
  h D0 H0 D H σ e Q fun l xs D' H' ds s a r p => q l xs D' H' ds s a r (f ds p)

/-! names, constants -/
theorem ev_var {i : Nat} (h : ρ[i]? = some (.dat d)) : EvD K W (tVar i) ρ d := fun D0 H0 D H σ e Q q => by
  obtain ⟨o, h1, v, h2, h3⟩ := e.slot i _ h
  subst h2
  exact ⟨v, h1, q v D H d (.refl e.ok) h3 rfl⟩
theorem ev_k {v : V} (h : ∀ D, Dq K D v d) : EvD K W (tC v) ρ d := fun D0 H0 D H σ e Q q => q v D H d (.refl e.ok) (h D) rfl
theorem ev_int {i : Int} : EvD K W (tC (.int i)) ρ (.int i) := ev_k fun _ => .int i
theorem ev_str {x : Str} : EvD K W (tC (.str x)) ρ (.str x) := ev_k fun _ => .str x
theorem ev_bl {b : Bool} : EvD K W (tC (.bl b)) ρ (.bool b) := ev_k fun _ => .bl b
theorem ev_non : EvD K W (tC .non) ρ .none := ev_k fun _ => .non

/-! operations -/
theorem ev_op {r : R2} (ha : EvN K W ta ρ P1) (hb : EvN K W tb ρ P2) (hr : ∀ d1 d2, P1 d1 → P2 d2 → RD K W r d1 d2 P) : EvN K W (tOp r ta tb) ρ P := fun D0 H0 D H σ e Q q =>
  ha D0 H0 D H σ e _ fun x D1 H1 d1 s1 q1 p1 => hb D0 H0 D1 H1 σ (e.step s1) _ fun y D2 H2 d2 s2 q2 p2 =>
    hr d1 d2 p1 p2 D2 H2 x y (s2.ok (s1.ok e.ok)) (q1.up s2.gro) q2 Q fun v D3 H3 d s3 q3 p3 => q v D3 H3 d ((s1.trans e.ok s2).trans e.ok s3) q3 p3
theorem ev_opD {r : R2} (ha : EvD K W ta ρ d1) (hb : EvD K W tb ρ d2) (hr : RD K W r d1 d2 P) : EvN K W (tOp r ta tb) ρ P :=
  ev_op ha hb fun _ _ h1 h2 => by
    subst h1
    subst h2
    exact hr
theorem ev_un {r : V → Hp → VK → Prop} (ha : EvN K W ta ρ P1) (hr : ∀ d1, P1 d1 → ∀ D H x, Ok W D H → Dq K D x d1 → ∀ Q : VK, (∀ v D' H' d, Step W D H D' H' → Dq K D' v d → P d → Q v H') → r x H Q) :
    EvN K W (tUn r ta) ρ P := fun D0 H0 D H σ e Q q =>
  ha D0 H0 D H σ e _ fun x D1 H1 d1 s1 q1 p1 => hr d1 p1 D1 H1 x (s1.ok e.ok) q1 Q fun v D3 H3 d s3 q3 p3 => q v D3 H3 d (s1.trans e.ok s3) q3 p3
theorem ev_cb {r : List V → Hp → VK → Prop} {ta : TA} {PA : List PyData → Prop} (ha : EvA K W ta ρ PA) (hr : ∀ ds, PA ds → RC K W r ds P) : EvN K W (tCB r ta) ρ P := fun D0 H0 D H σ e Q q =>
  ha D0 H0 D H σ e _ fun vs D1 H1 ds s1 q1 p1 => hr ds p1 D1 H1 vs (s1.ok e.ok) q1 Q fun v D3 H3 d s3 q3 p3 => q v D3 H3 d (s1.trans e.ok s3) q3 p3
theorem ea_nil : EvA K W tNil ρ (· = []) := fun D0 H0 D H σ e Q q => q [] D H [] (.refl e.ok) .nil rfl
theorem ea_cons {tr : TA} {PA : List PyData → Prop} (h : EvN K W te ρ P) (hr : EvA K W tr ρ PA) : EvA K W (tCons te tr) ρ (fun ds => ∃ d r, ds = d :: r ∧ P d ∧ PA r) := fun D0 H0 D H σ e Q q =>
  h D0 H0 D H σ e _ fun x D1 H1 d s1 q1 p1 => hr D0 H0 D1 H1 σ (e.step s1) _ fun vs D2 H2 ds s2 q2 p2 => q (x :: vs) D2 H2 (d :: ds) (s1.trans e.ok s2) (.cons (q1.up s2.gro) q2) ⟨d, ds, rfl, p1, p2⟩
theorem ea_consD {tr : TA} {ds : List PyData} (h : EvD K W te ρ d) (hr : EvA K W tr ρ (· = ds)) : EvA K W (tCons te tr) ρ (· = d :: ds) :=
  (ea_cons h hr).imp fun _ ⟨_, _, e, h1, h2⟩ => by
    subst h1
    subst h2
    exact e
theorem ev_cbD {r : List V → Hp → VK → Prop} {ta : TA} {ds : List PyData} (ha : EvA K W ta ρ (· = ds)) (hr : RC K W r ds P) : EvN K W (tCB r ta) ρ P :=
  ev_cb ha fun _ h => by
    subst h
    exact hr
theorem ev_tup {ta : TA} {PA : List PyData → Prop} (h : EvA K W ta ρ PA) (hl : ∀ ds, PA ds → ds.length ≤ sizeLine) : EvN K W (tTup ta) ρ (fun d => ∃ ds, PA ds ∧ d = .tuple ds) := fun D0 H0 D H σ e Q q =>
  h D0 H0 D H σ e _ fun vs D1 H1 ds s1 q1 p1 => ⟨by rw [q1.len]; exact hl ds p1, fun p hp => by
    have s2 : Step W D1 H1 (upd D1 p (.tup vs)) (upd H1 p (.tup vs)) := .made (s1.ok e.ok) hp
    exact q (.ref p) _ _ (.tuple ds) (s1.trans e.ok s2) (.tup (Or.inl (Or.inl upd_same)) (q1.up s2.gro)) ⟨ds, p1, rfl⟩⟩
theorem ev_tupD {ta : TA} {ds : List PyData} (h : EvA K W ta ρ (· = ds)) (hl : ds.length ≤ sizeLine) : EvD K W (tTup ta) ρ (.tuple ds) :=
  (ev_tup h fun _ e => by
    subst e
    exact hl).imp fun _ ⟨_, e1, e2⟩ => by
      subst e1
      exact e2
theorem evf_lst {ta : TA} {PA : List PyData → Prop} (h : EvA K W ta ρ PA) (hl : ∀ ds, PA ds → ds.length ≤ sizeLine) : EvF K W (tLst ta) ρ PA := fun D0 H0 D H σ e Q q =>
  h D0 H0 D H σ e _ fun vs D1 H1 ds s1 q1 p1 => ⟨by rw [q1.len]; exact hl ds p1, fun p hp => by
    have hH : H p = none := by
      cases z : H p with
      | none => rfl
      | some u =>
        by_cases hw : W.adr p
        · exact (W.has H1 p s1.inv hw hp).elim
        · rw [s1.off p u hw z] at hp
          cases hp
    have o1 := s1.ok e.ok
    have s2 : Step W D1 H1 D1 (upd H1 p (.lst vs)) := .keptH o1 (same_new hp)
    exact q p vs D1 _ ds (s1.trans e.ok s2) hH (o1.sub.free hp) upd_same q1 p1⟩
theorem EvF.ev {PA : List PyData → Prop} (h : EvF K W te ρ PA) : EvN K W te ρ (fun d => ∃ ds, PA ds ∧ d = .list ds) := fun D0 H0 D H σ e Q q =>
  h D0 H0 D H σ e _ fun l xs D1 H1 ds s1 a b c q1 p1 => q (.ref l) _ H1 (.list ds) (s1.told a b c) (.lst (Or.inl (Or.inl upd_same)) (q1.up (same_new b))) ⟨ds, p1, rfl⟩
theorem EvF.evD {ds : List PyData} (h : EvF K W te ρ (· = ds)) : EvD K W te ρ (.list ds) := h.ev.imp fun _ ⟨_, e1, e2⟩ => by
  subst e1
  exact e2
theorem EvF.evB {PA : List PyData → Prop} (h : EvF K W te ρ PA) : EvB K W te ρ PA := fun D0 H0 D H σ e Q q =>
  h D0 H0 D H σ e _ fun l xs D1 H1 ds s1 a b c q1 p1 => q l xs D1 H1 ds s1 (Or.inl (Or.inl c)) q1 p1
theorem EvN.evB {PA : List PyData → Prop} (h : EvN K W te ρ (fun d => ∃ ds, PA ds ∧ d = .list ds)) : EvB K W te ρ PA := fun D0 H0 D H σ e Q q =>
  h D0 H0 D H σ e _ fun v D1 H1 d s1 q1 ⟨ds, p1, e1⟩ => by
    subst e1
    cases q1 with
    | lst h1 h2 => exact q _ _ D1 H1 ds s1 (same_l s1.sub h1) h2 p1
theorem EvN.evBD {ds : List PyData} (h : EvD K W te ρ (.list ds)) : EvB K W te ρ (· = ds) := EvN.evB (h.imp fun _ e => ⟨ds, rfl, e⟩)
theorem evb_own {i : Nat} {ds : List PyData} (h : ρ[i]? = some (.own ds)) : EvB K W (tVar i) ρ (· = ds) := fun D0 H0 D H σ e Q q => by
  obtain ⟨o, h1, l, xs, h2, h3, h4, h5, h6, h7⟩ := e.slot i _ h
  subst h2
  exact ⟨_, h1, q l xs D H ds (.refl e.ok) (Or.inl (Or.inl h6)) h7 rfl⟩
/-- a list of one's own becomes data (it is not changed any more) -/
theorem ev_own {i : Nat} {ds : List PyData} (h : ρ[i]? = some (.own ds)) : ∀ D0 H0 D H σ, Env K W D0 H0 D H σ ρ → ∀ Q : VK,
    (∀ v D' , Step W D0 H0 D' H → Dq K D' v (.list ds) → Q v H) → tVar i σ H Q := fun D0 H0 D H σ e Q q => by
  obtain ⟨o, h1, l, xs, h2, h3, h4, h5, h6, h7⟩ := e.slot i _ h
  subst h2
  exact ⟨_, h1, q _ _ (e.st.told h4 h3 h6) (.lst (Or.inl (Or.inl upd_same)) (h7.up (same_new h3)))⟩

/-! tests -/
variable {tt tu : TT} {PT PU : Bool → Prop}
theorem et_test (h : EvN K W te ρ P) (f : ∀ d, P d → ∃ b, d = .bool b ∧ PT b) : EvT K W (tTest te) ρ PT := fun D0 H0 D H σ e Q q =>
  h D0 H0 D H σ e _ fun v D1 H1 d s1 q1 p1 => by
    obtain ⟨b, e1, p2⟩ := f d p1
    subst e1
    cases q1
    exact ⟨b, rfl, q b D1 H1 s1 p2⟩
theorem et_testD {b : Bool} (h : EvD K W te ρ (.bool b)) : EvT K W (tTest te) ρ (· = b) := et_test h fun _ e => ⟨b, e, rfl⟩
theorem et_B (h : EvN K W te ρ P) (f : ∀ d, P d → ∃ b, d = .bool b ∧ PT b) : EvT K W (tB te) ρ PT := et_test h f
theorem et_BD {b : Bool} (h : EvD K W te ρ (.bool b)) : EvT K W (tB te) ρ (· = b) := et_testD h
theorem et_not (h : EvT K W tt ρ PT) : EvT K W (tNot tt) ρ (fun b => PT (!b)) := fun D0 H0 D H σ e Q q =>
  h D0 H0 D H σ e _ fun b D1 H1 s1 p1 => q (!b) D1 H1 s1 (show PT (!!b) by rw [Bool.not_not]; exact p1)
theorem et_notD {b : Bool} (h : EvT K W tt ρ (· = b)) : EvT K W (tNot tt) ρ (· = !b) := (et_not h).imp fun c e => by
  rw [← e, Bool.not_not]
theorem et_and (h1 : EvT K W tt ρ PT) (h2 : PT true → EvT K W tu ρ PU) (hf : PT false → PU false) : EvT K W (tAnd tt tu) ρ PU := fun D0 H0 D H σ e Q q =>
  h1 D0 H0 D H σ e _ fun b D1 H1 s1 p1 => by
    cases b with
    | true => exact iteT (h2 p1 D0 H0 D1 H1 σ (e.step s1) _ fun c D2 H2 s2 p2 => q c D2 H2 (s1.trans e.ok s2) p2)
    | false => exact iteF (q false D1 H1 s1 (hf p1))
theorem et_or (h1 : EvT K W tt ρ PT) (h2 : PT false → EvT K W tu ρ PU) (hf : PT true → PU true) : EvT K W (tOr tt tu) ρ PU := fun D0 H0 D H σ e Q q =>
  h1 D0 H0 D H σ e _ fun b D1 H1 s1 p1 => by
    cases b with
    | true => exact iteT (q true D1 H1 s1 (hf p1))
    | false => exact iteF (h2 p1 D0 H0 D1 H1 σ (e.step s1) _ fun c D2 H2 s2 p2 => q c D2 H2 (s1.trans e.ok s2) p2)
theorem et_andD {b c : Bool} (h1 : EvT K W tt ρ (· = b)) (h2 : b = true → EvT K W tu ρ (· = c)) : EvT K W (tAnd tt tu) ρ (· = (b && c)) := by
  refine et_and h1 (fun e => ?_) (fun e => ?_)
  · subst e
    exact (h2 rfl).imp fun _ e => by rw [e, Bool.true_and]
  · subst e
    rfl
theorem et_orD {b c : Bool} (h1 : EvT K W tt ρ (· = b)) (h2 : b = false → EvT K W tu ρ (· = c)) : EvT K W (tOr tt tu) ρ (· = (b || c)) := by
  refine et_or h1 (fun e => ?_) (fun e => ?_)
  · subst e
    exact (h2 rfl).imp fun _ e => by rw [e, Bool.false_or]
  · subst e
    rfl
theorem ev_if (h : EvT K W tt ρ PT) (ha : PT true → EvN K W ta ρ P) (hb : PT false → EvN K W tb ρ P) : EvN K W (tIf tt ta tb) ρ P := fun D0 H0 D H σ e Q q =>
  h D0 H0 D H σ e _ fun b D1 H1 s1 p1 => by
    cases b with
    | true => exact iteT (ha p1 D0 H0 D1 H1 σ (e.step s1) _ fun v D2 H2 d s2 q2 p2 => q v D2 H2 d (s1.trans e.ok s2) q2 p2)
    | false => exact iteF (hb p1 D0 H0 D1 H1 σ (e.step s1) _ fun v D2 H2 d s2 q2 p2 => q v D2 H2 d (s1.trans e.ok s2) q2 p2)
theorem ev_ifD {b : Bool} (h : EvT K W tt ρ (· = b)) (ha : b = true → EvN K W ta ρ P) (hb : b = false → EvN K W tb ρ P) : EvN K W (tIf tt ta tb) ρ P :=
  ev_if h (fun e => ha e.symm) (fun e => hb e.symm)
theorem ev_and {b c : Bool} (h1 : EvD K W ta ρ (.bool b)) (h2 : b = true → EvD K W tb ρ (.bool c)) : EvD K W (tAndV ta tb) ρ (.bool (b && c)) := fun D0 H0 D H σ e Q q =>
  h1 D0 H0 D H σ e _ fun v D1 H1 d s1 q1 p1 => by
    subst p1
    cases q1
    refine ⟨b, rfl, ?_⟩
    cases b with
    | true => exact iteT (h2 rfl D0 H0 D1 H1 σ (e.step s1) _ fun v D2 H2 d s2 q2 p2 => q v D2 H2 d (s1.trans e.ok s2) q2 (by rw [p2, Bool.true_and]))
    | false => exact iteF (q _ D1 H1 _ s1 (.bl false) rfl)
theorem ev_or {b c : Bool} (h1 : EvD K W ta ρ (.bool b)) (h2 : b = false → EvD K W tb ρ (.bool c)) : EvD K W (tOrV ta tb) ρ (.bool (b || c)) := fun D0 H0 D H σ e Q q =>
  h1 D0 H0 D H σ e _ fun v D1 H1 d s1 q1 p1 => by
    subst p1
    cases q1
    refine ⟨b, rfl, ?_⟩
    cases b with
    | true => exact iteT (q _ D1 H1 _ s1 (.bl true) rfl)
    | false => exact iteF (h2 rfl D0 H0 D1 H1 σ (e.step s1) _ fun v D2 H2 d s2 q2 p2 => q v D2 H2 d (s1.trans e.ok s2) q2 (by rw [p2, Bool.false_or]))
theorem ev_not {b : Bool} (h1 : EvD K W ta ρ (.bool b)) : EvD K W (tNotV ta) ρ (.bool (!b)) := fun D0 H0 D H σ e Q q =>
  h1 D0 H0 D H σ e _ fun v D1 H1 d s1 q1 p1 => by
    subst p1
    cases q1
    exact ⟨b, rfl, q _ D1 H1 _ s1 (.bl _) rfl⟩

/-! operations on data -/
theorem rd_I0 {g : Int → Int → V} {i j : Int} (h : ∀ D, Dq K D (g i j) d) : RD K W (rI0 g) (.int i) (.int j) (· = d) := fun D H x y o hx hy Q q => by
  cases hx
  cases hy
  exact ⟨i, j, rfl, rfl, q _ D H d (.refl o) (h D) rfl⟩
theorem rd_I {C : Int → Int → Prop} {g : Int → Int → V} {i j : Int} (hc : C i j) (h : ∀ D, Dq K D (g i j) d) : RD K W (rI C g) (.int i) (.int j) (· = d) := fun D H x y o hx hy Q q => by
  cases hx
  cases hy
  exact ⟨i, j, rfl, rfl, hc, q _ D H d (.refl o) (h D) rfl⟩
theorem rd_eqQ {neg : Bool} (h1 : SeqAt.shaped d1 = true) (h2 : SeqAt.shaped d2 = true) : RD K W (rEqQ K neg) d1 d2 (· = .bool (if neg = true then !PyData.eqv d1 d2 else PyData.eqv d1 d2)) := fun D H x y o hx hy Q q =>
  ⟨d1, d2, hx.up o.sub, hy.up o.sub, h1, h2, q _ D H _ (.refl o) (.bl _) rfl⟩
theorem rc_repr (h1 : d.showable = true) (h2 : d.hasDict = false) (h3 : d.depth ≤ 60) (h4 : d.shown.length ≤ sizeLine) : RC K W (rRepr K) [d] (· = .str d.shown) := fun D H vs o hv Q q => by
  cases hv with
  | cons hx hn =>
    cases hn
    exact ⟨_, d, rfl, hx.up o.sub, h1, h2, h3, h4, q _ D H _ (.refl o) (.str _) rfl⟩
end

/-! ### blocks -/
section
variable {K : PySem.W.Frag} {W : Fx} {EX : Hp → Prop} {ρ : List Sk} {P : PyData → Prop} {te : TE} {tt : TT} {PT : Bool → Prop} {t1 t2 tr : TS} {O : Out} {i : Nat}

theorem st_next (h : O.nx ρ) : StG K W EX tNext ρ O := fun D0 H0 D H σ Dn e k _ _ _ _ => k σ D H ρ (Same.refl D) e h
theorem st_nextSeq (h : StG K W EX tr ρ O) : StG K W EX (tSeq tNext tr) ρ O := h
theorem st_seq {N : List Sk → Prop} (h1 : StG K W EX t1 ρ { O with nx := N }) (h2 : ∀ ρ', N ρ' → StG K W EX tr ρ' O) : StG K W EX (tSeq t1 tr) ρ O := fun D0 H0 D H σ Dn e kn kb kc kr kx =>
  h1 D0 H0 D H σ { Dn with nx := tr Dn } e (fun σ' D' H' ρ' g e' n => h2 ρ' n D0 H0 D' H' σ' Dn e' (fun a b c x g2 => kn a b c x (g.trans g2)) (fun a b c x g2 => kb a b c x (g.trans g2)) (fun a b c x g2 => kc a b c x (g.trans g2)) kr kx) kb kc kr kx
theorem st_ret (h : EvN K W te ρ O.rt) : StG K W EX (tRet te) ρ O := fun D0 H0 D H σ Dn e _ _ _ kr kx => h D0 H0 D H σ e _ fun v D' H' d s q p => kr v D' H' d (e.st.trans e.ok0 s) q p
theorem st_retOwn {ds : List PyData} (h : ρ[i]? = some (.own ds)) (hr : O.rt (.list ds)) : StG K W EX (tRet (tVar i)) ρ O := fun D0 H0 D H σ Dn e _ _ _ kr kx => ev_own h D0 H0 D H σ e _ fun v D' s q => kr v D' H _ s q hr
theorem st_set (hi : i < ρ.length) (h : EvN K W te ρ P) (k : ∀ d, P d → StG K W EX tr (ρ.set i (.dat d)) O) : StG K W EX (tSeq (tAsg te (gName i)) tr) ρ O := fun D0 H0 D H σ Dn e kn kb kc kr kx =>
  h D0 H0 D H σ e _ fun v D' H' d s q p => k d p D0 H0 D' H' _ Dn ((e.step s).set hi q) (fun a b c x g2 => kn a b c x (s.gro.trans g2)) (fun a b c x g2 => kb a b c x (s.gro.trans g2)) (fun a b c x g2 => kc a b c x (s.gro.trans g2)) kr kx
theorem st_setD {d : PyData} (hi : i < ρ.length) (h : EvD K W te ρ d) (k : StG K W EX tr (ρ.set i (.dat d)) O) : StG K W EX (tSeq (tAsg te (gName i)) tr) ρ O := st_set hi h fun _ e => by
  subst e
  exact k
/-- a last statement -/
theorem st_last (h : StG K W EX (tSeq t1 tNext) ρ O) : StG K W EX t1 ρ O := fun D0 H0 D H σ Dn e kn kb kc kr kx => h D0 H0 D H σ Dn e kn kb kc kr kx
theorem st_setOwn {PA : List PyData → Prop} (hi : i < ρ.length) (h : EvF K W te ρ PA) (k : ∀ ds, PA ds → StG K W EX tr (ρ.set i (.own ds)) O) : StG K W EX (tSeq (tAsg te (gName i)) tr) ρ O := fun D0 H0 D H σ Dn e kn kb kc kr kx =>
  h D0 H0 D H σ e _ fun l xs D' H' ds s hn hd hl q p => by
    have e1 := e.step s
    have h0 : H0 l = none := by
      cases z : H0 l with
      | none => rfl
      | some u =>
        by_cases hw : W.adr l
        · exact (W.has H l e.st.inv hw hn).elim
        · rw [e.st.off l u hw z] at hn
          cases hn
    have hw : ¬ W.adr l := fun hw => W.has H l e.st.inv hw hn
    refine k ds p D0 H0 D' H' _ Dn (e1.setOwn (s := .lst) hi hd h0 hw hl q fun j t es hj hj1 hj2 => ?_) (fun a b c x g2 => kn a b c x (s.gro.trans g2)) (fun a b c x g2 => kb a b c x (s.gro.trans g2)) (fun a b c x g2 => kc a b c x (s.gro.trans g2)) kr kx
    obtain ⟨o, q1, m, ys, q2, q3, q4, q5, q6, q7⟩ := e.slot j _ hj1
    rw [hj2] at q1
    cases q1
    cases q2
    rw [hn] at q6
    cases q6
theorem st_if (h : EvT K W tt ρ PT) (h1 : PT true → StG K W EX (tSeq t1 tr) ρ O) (h2 : PT false → StG K W EX (tSeq t2 tr) ρ O) : StG K W EX (tSeq (tIfS tt t1 t2) tr) ρ O := fun D0 H0 D H σ Dn e kn kb kc kr kx =>
  h D0 H0 D H σ e _ fun b D' H' s p => by
    have e1 := e.step s
    cases b with
    | true => exact iteT (h1 p D0 H0 D' H' σ Dn e1 (fun a b c x g2 => kn a b c x (s.gro.trans g2)) (fun a b c x g2 => kb a b c x (s.gro.trans g2)) (fun a b c x g2 => kc a b c x (s.gro.trans g2)) kr kx)
    | false => exact iteF (h2 p D0 H0 D' H' σ Dn e1 (fun a b c x g2 => kn a b c x (s.gro.trans g2)) (fun a b c x g2 => kb a b c x (s.gro.trans g2)) (fun a b c x g2 => kc a b c x (s.gro.trans g2)) kr kx)
theorem st_ifD {b : Bool} (h : EvT K W tt ρ (· = b)) (h1 : b = true → StG K W EX (tSeq t1 tr) ρ O) (h2 : b = false → StG K W EX (tSeq t2 tr) ρ O) : StG K W EX (tSeq (tIfS tt t1 t2) tr) ρ O :=
  st_if h (fun e => h1 e.symm) (fun e => h2 e.symm)
theorem st_retSeq (h : EvN K W te ρ O.rt) : StG K W EX (tSeq (tRet te) tr) ρ O := fun D0 H0 D H σ Dn e _ _ _ kr kx => h D0 H0 D H σ e _ fun v D' H' d s q p => kr v D' H' d (e.st.trans e.ok0 s) q p
theorem st_drop (h : EvN K W te ρ P) (k : StG K W EX tr ρ O) : StG K W EX (tSeq (tDrop te) tr) ρ O := fun D0 H0 D H σ Dn e kn kb kc kr kx =>
  h D0 H0 D H σ e _ fun v D' H' d s q p => k D0 H0 D' H' _ Dn (e.step s) (fun a b c x g2 => kn a b c x (s.gro.trans g2)) (fun a b c x g2 => kb a b c x (s.gro.trans g2)) (fun a b c x g2 => kc a b c x (s.gro.trans g2)) kr kx
/-- xs.append(e) -/
theorem st_append {ds : List PyData} (hρ : ρ[i]? = some (.own ds)) (hz : ds.length < sizeLine) {r : V → List V → Hp → VK → Prop}
    (hr : ∀ l x xs H Q, H l = some (.lst xs) → xs.length < sizeLine → Q V.non (upd H l (.lst (xs ++ [x]))) → r (.ref l) [x] H Q)
    (h : EvN K W te ρ P) (k : ∀ d, P d → StG K W EX tr (ρ.set i (.own (ds ++ [d]))) O) : StG K W EX (tSeq (tDrop (tBM K "list" r (tVar i) (tCons te tNil))) tr) ρ O := fun D0 H0 D H σ Dn e kn kb kc kr kx => by
  obtain ⟨o, q1, l, xs, q2, q3, q4, q5, q6, q7⟩ := e.slot i _ hρ
  subst q2
  refine ⟨.ref l, q1, Or.inl ⟨rfl, _, Or.inl (Or.inl q6)⟩, ?_⟩
  refine h D0 H0 D H σ e _ fun v D' H' d s q p => ?_
  have e1 := e.step s
  obtain ⟨o', r1, l', xs', r2, r3, r4, r5, r6, r7⟩ := e1.slot i _ hρ
  rw [q1] at r1
  cases r1
  cases r2
  refine hr l v xs' H' _ r6 (by rw [r7.len]; exact hz) ?_
  exact k d p D0 H0 D' _ σ Dn (e1.write hρ q1 (r7.app (.cons q .nil))) (fun a b c x g2 => kn a b c x (s.gro.trans g2)) (fun a b c x g2 => kb a b c x (s.gro.trans g2)) (fun a b c x g2 => kc a b c x (s.gro.trans g2)) kr kx
/-! what may raise -/
theorem EvN.evr {R : Prop} (h : EvN K W te ρ P) : EvR K W EX te ρ P R := fun D0 H0 D H σ e Q q _ => h D0 H0 D H σ e Q q
theorem EvR.imp {P2 : PyData → Prop} {R R2 : Prop} (h : EvR K W EX te ρ P R) (f : ∀ d, P d → P2 d) (g : R → R2) : EvR K W EX te ρ P2 R2 := fun D0 H0 D H σ e Q q x =>
  h D0 H0 D H σ e Q (fun v D' H' d s r p => q v D' H' d s r (f d p)) fun D' H' s r => x D' H' s (g r)
theorem evr_op {r : R2} {ta tb : TE} {P1 P2 : PyData → Prop} {R1 R2' : Prop} (ha : EvR K W EX ta ρ P1 R1) (hb : ∀ d1, P1 d1 → EvR K W EX tb ρ P2 R2') (hr : ∀ d1 d2, P1 d1 → P2 d2 → RD K W r d1 d2 P) :
    EvR K W EX (tOp r ta tb) ρ P (R1 ∨ (∃ d, P1 d) ∧ R2') := fun D0 H0 D H σ e Q q x =>
  ha D0 H0 D H σ e _ (fun x1 D1 H1 d1 s1 q1 p1 => hb d1 p1 D0 H0 D1 H1 σ (e.step s1) _ (fun y D2 H2 d2 s2 q2 p2 =>
    hr d1 d2 p1 p2 D2 H2 x1 y (s2.ok (s1.ok e.ok)) (q1.up s2.gro) q2 Q fun v D3 H3 d s3 q3 p3 => q v D3 H3 d ((s1.trans e.ok s2).trans e.ok s3) q3 p3)
    fun D2 H2 s2 z => x D2 H2 (s1.trans e.ok s2) (Or.inr ⟨⟨d1, p1⟩, z⟩)) fun D1 H1 s1 z => x D1 H1 s1 (Or.inl z)
theorem st_setR {R : Prop} (hi : i < ρ.length) (h : EvR K W EX te ρ P R) (k : ∀ d, P d → StG K W EX tr (ρ.set i (.dat d)) O) (hx : R → O.xr) : StG K W EX (tSeq (tAsg te (gName i)) tr) ρ O := fun D0 H0 D H σ Dn e kn kb kc kr kx =>
  h D0 H0 D H σ e _ (fun v D' H' d s q p => k d p D0 H0 D' H' _ Dn ((e.step s).set hi q) (fun a b c x g2 => kn a b c x (s.gro.trans g2)) (fun a b c x g2 => kb a b c x (s.gro.trans g2)) (fun a b c x g2 => kc a b c x (s.gro.trans g2)) kr kx)
    fun D' H' s r => kx D' H' (e.st.trans e.ok0 s) (hx r)
theorem st_retR {R : Prop} (h : EvR K W EX te ρ O.rt R) (hx : R → O.xr) : StG K W EX (tRet te) ρ O := fun D0 H0 D H σ Dn e _ _ _ kr kx =>
  h D0 H0 D H σ e _ (fun v D' H' d s q p => kr v D' H' d (e.st.trans e.ok0 s) q p) fun D' H' s r => kx D' H' (e.st.trans e.ok0 s) (hx r)
theorem st_retSeqR {R : Prop} (h : EvR K W EX te ρ O.rt R) (hx : R → O.xr) : StG K W EX (tSeq (tRet te) tr) ρ O := fun D0 H0 D H σ Dn e _ _ _ kr kx =>
  h D0 H0 D H σ e _ (fun v D' H' d s q p => kr v D' H' d (e.st.trans e.ok0 s) q p) fun D' H' s r => kx D' H' (e.st.trans e.ok0 s) (hx r)
theorem st_raise (hx : O.xr) : StG K W EX (fun _ _ H => EX H) ρ O := fun D0 H0 D H σ Dn e _ _ _ _ kx => kx D H e.st hx
theorem st_raiseSeq (hx : O.xr) : StG K W EX (tSeq (fun _ _ H => EX H) tr) ρ O := fun D0 H0 D H σ Dn e _ _ _ _ kx => kx D H e.st hx
theorem st_flat {t3 : TS} (h : StG K W EX (tSeq t1 (tSeq t2 t3)) ρ O) : StG K W EX (tSeq (tSeq t1 t2) t3) ρ O := h
end
end Dl

/-! ## Walks, targets, comprehensions, loops, calls -/
namespace Dl
open PySem PySem.Spec L2

section
variable (K : PySem.W.Frag) (W : Fx)
/-- an iterator that gives the items ds -/
def Walks (D : Hp) (J : It) (ds : List PyData) : Prop := ∀ i D1 H1, Ok W D1 H1 → Same D D1 →
  (∀ d, ds[i]? = some d → J.go i H1 ∧ ∀ x H2, J.yld i H1 x H2 → ∃ D2, Step W D1 H1 D2 H2 ∧ Dq K D2 x d) ∧ (ds.length ≤ i → J.stop i H1)
def EvI (wi : TI) (ρ : List Sk) (P : List PyData → Prop) : Prop := ∀ D0 H0 D H σ, Env K W D0 H0 D H σ ρ → ∀ R : It → Hp → Prop,
  (∀ J D' H' ds, Step W D H D' H' → Walks K W D' J ds → P ds → R J H') → wi σ H R
/-- a target takes d; only the slots js change -/
def EvG (g : TG) (ρ : List Sk) (d : PyData) (ρ' : List Sk) (js : List Nat) : Prop := ∀ D0 H0 D H σ, Env K W D0 H0 D H σ ρ → ∀ v, Dq K D v d → ∀ Q : L2.St → Hp → Prop,
  (∀ σ' D' H', Step W D H D' H' → Env K W D0 H0 D' H' σ' ρ' → σ'.length = σ.length → (∀ j, j ∉ js → σ'[j]? = σ[j]?) → Q σ' H') → g v σ H Q
end

section
variable {K : PySem.W.Frag} {W : Fx} {ρ ρ' : List Sk} {te : TE} {d : PyData} {ds : List PyData}
theorem eg_name {i : Nat} (hi : i < ρ.length) : EvG K W (gName i) ρ d (ρ.set i (.dat d)) [i] := fun D0 H0 D H σ e v q Q k =>
  k _ D H (.refl e.ok) (e.set hi q) (List.length_set ..) fun j hj => List.getElem?_set_ne (fun z => hj (by simp [z]))
theorem Walks.list {D : Hp} {a : Addr} {xs : List V} (h : SqL K D a xs) (q : DqA K D xs ds) : Walks K W D (Itl K a) ds := fun i D1 H1 o g => by
  have hs : SqL K H1 a xs := same_l (g.trans o.sub) h
  refine ⟨fun d hd => ?_, fun hi => ⟨xs, hs, by rw [q.len]; exact hi⟩⟩
  obtain ⟨v, hv, qv⟩ := q.at hd
  refine ⟨⟨xs, v, hs, hv⟩, fun x H2 y => ?_⟩
  obtain ⟨e, y⟩ := y
  subst e
  have e2 := y xs hs
  rw [hv] at e2
  cases e2
  exact ⟨D1, .refl o, qv.up g⟩
theorem Walks.tup {D : Hp} {a : Addr} {xs : List V} (h : SqT K D a xs) (q : DqA K D xs ds) : Walks K W D (Itt K a) ds := fun i D1 H1 o g => by
  have hs : SqT K H1 a xs := same_t (g.trans o.sub) h
  refine ⟨fun d hd => ?_, fun hi => ⟨xs, hs, by rw [q.len]; exact hi⟩⟩
  obtain ⟨v, hv, qv⟩ := q.at hd
  refine ⟨⟨xs, v, hs, hv⟩, fun x H2 y => ?_⟩
  obtain ⟨e, y⟩ := y
  subst e
  have e2 := y xs hs
  rw [hv] at e2
  cases e2
  exact ⟨D1, .refl o, qv.up g⟩
def ups (lo : Int) (n : Nat) : List PyData := (List.range n).map fun (i : Nat) => .int (lo + (i : Int))
theorem ups_len {lo : Int} {n : Nat} : (ups lo n).length = n := by unfold ups; rw [List.length_map, List.length_range]
theorem ups_at {lo : Int} {n i : Nat} {d : PyData} : (ups lo n)[i]? = some d ↔ i < n ∧ d = .int (lo + (i : Int)) := by
  unfold ups
  rw [List.getElem?_map]
  by_cases h : i < n
  · rw [List.getElem?_range h]
    simp [h, eq_comm]
  · rw [List.getElem?_eq_none (by simpa using h)]
    simp [h]
theorem Walks.rng {D : Hp} {lo : Int} {n : Nat} : Walks K W D (Itr lo n) (ups lo n) := fun i D1 H1 o g => by
  refine ⟨fun d hd => ?_, fun hi => by rw [ups_len] at hi; exact hi⟩
  obtain ⟨h1, h2⟩ := ups_at.mp hd
  subst h2
  refine ⟨h1, fun x H2 y => ?_⟩
  obtain ⟨e, y⟩ := y
  subst e
  subst y
  exact ⟨D1, .refl o, .int _⟩
theorem Walks.rngC {D : Hp} {lo c : Int} {n : Nat} : Walks K W D (Itc lo c n) ((List.range n).map fun (i : Nat) => .int (lo + (i : Int) * c)) := fun i D1 H1 o g => by
  refine ⟨fun d hd => ?_, fun hi => by
    show n ≤ i
    simpa using hi⟩
  rw [List.getElem?_map] at hd
  by_cases h : i < n
  · rw [List.getElem?_range h] at hd
    cases hd
    refine ⟨h, fun x H2 y => ?_⟩
    obtain ⟨e, y⟩ := y
    subst e
    subst y
    exact ⟨D1, .refl o, .int _⟩
  · rw [List.getElem?_eq_none (by simpa using h)] at hd
    cases hd
theorem Walks.str {D : Hp} {x : Str} : Walks K W D (Its x) (x.cps.toList.map fun c => .str ⟨#[c]⟩) := fun i D1 H1 o g => by
  refine ⟨fun d hd => ?_, fun hi => by
    show x.cps.size ≤ i
    simpa using hi⟩
  rw [List.getElem?_map, Array.getElem?_toList] at hd
  cases z : x.cps[i]? with
  | none =>
    rw [z] at hd
    cases hd
  | some c =>
    rw [z] at hd
    cases hd
    refine ⟨(Array.getElem?_eq_some_iff.mp z).1, fun v H2 y => ?_⟩
    obtain ⟨e, c', e1, e2⟩ := y
    subst e
    rw [z] at e1
    cases e1
    subst e2
    exact ⟨D1, .refl o, .str _⟩
def enums : Nat → List PyData → List PyData
  | _, [] => []
  | n, d :: ds => .tuple [.int ((n : Nat) : Int), d] :: enums (n + 1) ds
theorem enums_len : ∀ (n : Nat) (ds : List PyData), (enums n ds).length = ds.length
  | _, [] => rfl
  | n, _ :: ds => by rw [enums, List.length_cons, List.length_cons, enums_len]
theorem enums_at : ∀ {n : Nat} {ds : List PyData} {i : Nat} {e : PyData}, (enums n ds)[i]? = some e → ∃ d, ds[i]? = some d ∧ e = .tuple [.int ((n + i : Nat) : Int), d]
  | _, [], _, _, h => by simp [enums] at h
  | n, d :: ds, 0, _, h => by
    simp [enums] at h
    exact ⟨d, rfl, h.symm⟩
  | n, d :: ds, i + 1, _, h => by
    simp [enums] at h
    obtain ⟨d', h1, h2⟩ := enums_at h
    refine ⟨d', by simpa using h1, ?_⟩
    rw [h2, show n + 1 + i = n + (i + 1) by omega]
theorem Walks.enum {D : Hp} {a : Addr} {xs : List V} (h : SqL K D a xs) (q : DqA K D xs ds) : Walks K W D (Ite K a) (enums 0 ds) := fun i D1 H1 o g => by
  have hs : SqL K H1 a xs := same_l (g.trans o.sub) h
  refine ⟨fun d hd => ?_, fun hi => ⟨xs, hs, by rw [q.len]; rw [enums_len] at hi; exact hi⟩⟩
  obtain ⟨d', hd', e⟩ := enums_at hd
  subst e
  obtain ⟨v, hv, qv⟩ := q.at hd'
  refine ⟨⟨xs, v, hs, hv⟩, fun x H2 y => ?_⟩
  obtain ⟨T, x', e1, e2, e3, y⟩ := y
  subst e1
  subst e3
  have e4 := y xs hs
  rw [hv] at e4
  cases e4
  have s2 : Step W D1 H1 (upd D1 T (.tup [.int ((i : Nat) : Int), v])) (upd H1 T (.tup [.int ((i : Nat) : Int), v])) := .made o e2
  refine ⟨_, s2, .tup (Or.inl (Or.inl upd_same)) ?_⟩
  rw [Nat.zero_add]
  exact .cons (.int _) (.cons ((qv.up g).up s2.gro) .nil)

theorem ei_list (h : EvD K W te ρ (.list ds)) : EvI K W (iList K te) ρ (· = ds) := fun D0 H0 D H σ e R k =>
  h D0 H0 D H σ e _ fun v D' H' d s q p => by
    subst p
    cases q with
    | lst h1 h2 => exact ⟨_, rfl, ⟨_, same_l s.sub h1⟩, k _ D' H' _ s (.list h1 h2) rfl⟩
theorem ei_tup (h : EvD K W te ρ (.tuple ds)) : EvI K W (iTup K te) ρ (· = ds) := fun D0 H0 D H σ e R k =>
  h D0 H0 D H σ e _ fun v D' H' d s q p => by
    subst p
    cases q with
    | tup h1 h2 => exact ⟨_, rfl, ⟨_, same_t s.sub h1⟩, k _ D' H' _ s (.tup h1 h2) rfl⟩
theorem ei_rng1 {ta : TA} {n : Int} (h : EvA K W ta ρ (· = [.int n])) (h1 : n < 2 ^ 62) (h2 : -(2 ^ 62) ≤ n) : EvI K W (iRng1 ta) ρ (· = ups 0 n.toNat) := fun D0 H0 D H σ e R k =>
  h D0 H0 D H σ e _ fun vs D' H' d s q p => by
    subst p
    cases q with
    | cons q1 q2 =>
      cases q1
      cases q2
      exact ⟨n, rfl, h2, h1, k _ D' H' _ s .rng rfl⟩
theorem ei_rng2 {ta : TA} {m n : Int} (h : EvA K W ta ρ (· = [.int m, .int n])) (h1 : -(2 ^ 62) ≤ m ∧ m < 2 ^ 62 ∧ -(2 ^ 62) ≤ n ∧ n < 2 ^ 62) : EvI K W (iRng2 ta) ρ (· = ups m (n - m).toNat) := fun D0 H0 D H σ e R k =>
  h D0 H0 D H σ e _ fun vs D' H' d s q p => by
    subst p
    cases q with
    | cons q1 q2 =>
      cases q1
      cases q2 with
      | cons q3 q4 =>
        cases q3
        cases q4
        exact ⟨m, n, rfl, h1, k _ D' H' _ s .rng rfl⟩
theorem ei_str {x : Str} (h : EvD K W te ρ (.str x)) : EvI K W (iStr te) ρ (· = x.cps.toList.map fun c => .str ⟨#[c]⟩) := fun D0 H0 D H σ e R k =>
  h D0 H0 D H σ e _ fun v D' H' d s q p => by
    subst p
    cases q
    exact ⟨x, rfl, k _ D' H' _ s .str rfl⟩
theorem ei_enum (h : EvD K W te ρ (.list ds)) : EvI K W (iEnum K (tCons te tNil)) ρ (· = enums 0 ds) := fun D0 H0 D H σ e R k =>
  h D0 H0 D H σ e _ fun v D' H' d s q p => by
    subst p
    cases q with
    | lst h1 h2 => exact ⟨_, _, rfl, same_l s.sub h1, k _ D' H' _ s (.enum h1 h2) rfl⟩

/-! targets of several names -/
def EvGs (K : PySem.W.Frag) (W : Fx) (g : TGs) (ρ : List Sk) (ds : List PyData) (ρ' : List Sk) (js : List Nat) : Prop := ∀ D0 H0 D H σ, Env K W D0 H0 D H σ ρ → ∀ vs, DqA K D vs ds → ∀ Q : L2.St → Hp → Prop,
  (∀ σ' D' H', Step W D H D' H' → Env K W D0 H0 D' H' σ' ρ' → σ'.length = σ.length → (∀ j, j ∉ js → σ'[j]? = σ[j]?) → Q σ' H') → g vs σ H Q
theorem egs_nil : EvGs K W gNil ρ [] ρ [] := fun D0 H0 D H σ e vs q Q k => by
  cases q
  exact ⟨rfl, k σ D H (.refl e.ok) e rfl fun _ _ => rfl⟩
theorem egs_cons {g : TG} {gs : TGs} {ρ1 ρ2 : List Sk} {j1 j2 : List Nat} (h1 : EvG K W g ρ d ρ1 j1) (h2 : EvGs K W gs ρ1 ds ρ2 j2) : EvGs K W (gCons g gs) ρ (d :: ds) ρ2 (j1 ++ j2) := fun D0 H0 D H σ e vs q Q k => by
  cases q with
  | cons q1 q2 =>
    refine ⟨_, _, rfl, h1 D0 H0 D H σ e _ q1 _ fun σ1 D1 H1 s1 e1 l1 c1 => h2 D0 H0 D1 H1 σ1 e1 _ (q2.up s1.gro) _ fun σ2 D2 H2 s2 e2 l2 c2 => ?_⟩
    refine k σ2 D2 H2 (s1.trans e.ok s2) e2 (l2.trans l1) fun j hj => ?_
    have hj' : j ∉ j1 ∧ j ∉ j2 := by simpa using hj
    exact (c2 j hj'.2).trans (c1 j hj'.1)
theorem eg_tup {g : TGs} {n : Nat} {js : List Nat} (h : EvGs K W g ρ ds ρ' js) (hn : ds.length = n) : EvG K W (gTup K n g) ρ (.tuple ds) ρ' js := fun D0 H0 D H σ e v q Q k => by
  cases q with
  | tup h1 h2 => exact ⟨_, _, rfl, same_t e.ok.sub h1, by rw [h2.len]; exact hn, h D0 H0 D H σ e _ h2 Q k⟩

/-! ### comprehensions -/
def wipeR (ρ : List Sk) : List Nat → List Sk
  | [] => ρ
  | v :: vs => (wipeR ρ vs).set v .any
theorem wipeR_len (ρ : List Sk) : ∀ vs : List Nat, (wipeR ρ vs).length = ρ.length
  | [] => rfl
  | v :: vs => by unfold wipeR; rw [List.length_set, wipeR_len ρ vs]
theorem wipe_at (σ : L2.St) (i : Nat) : ∀ vs : List Nat, (wipe σ vs)[i]? = if i ∈ vs ∧ i < σ.length then some none else σ[i]?
  | [] => by simp [wipe]
  | v :: vs => by
    unfold wipe
    by_cases h : v = i
    · subst h
      by_cases hl : v < σ.length
      · rw [List.getElem?_set_self (by rw [wipe_length]; exact hl), if_pos ⟨List.mem_cons_self, hl⟩]
      · rw [if_neg (fun z => hl z.2), List.getElem?_eq_none (by rw [List.length_set, wipe_length]; omega), List.getElem?_eq_none (by omega)]
    · rw [List.getElem?_set_ne h, wipe_at σ i vs]
      have : i ∈ v :: vs ↔ i ∈ vs := by
        rw [List.mem_cons]
        exact ⟨fun z => z.elim (fun e => (h e.symm).elim) id, Or.inr⟩
      simp only [this]
theorem wipe_idem (σ : L2.St) (vs : List Nat) : wipe (wipe σ vs) vs = wipe σ vs := by
  apply List.ext_getElem?
  intro i
  rw [wipe_at, wipe_at, wipe_length]
  by_cases h : i ∈ vs ∧ i < σ.length
  · rw [if_pos h, if_pos h]
  · rw [if_neg h, if_neg h]
theorem wipe_eq {σ σ' : L2.St} {vs js : List Nat} (hl : σ'.length = σ.length) (hj : ∀ j ∈ js, j ∈ vs) (h : ∀ j, j ∉ js → σ'[j]? = σ[j]?) : wipe σ' vs = wipe σ vs := by
  apply List.ext_getElem?
  intro i
  rw [wipe_at, wipe_at, hl]
  by_cases q : i ∈ vs ∧ i < σ.length
  · rw [if_pos q, if_pos q]
  · rw [if_neg q, if_neg q]
    by_cases hi : i ∈ vs
    · have hl2 : σ.length ≤ i := Nat.le_of_not_lt fun z => q ⟨hi, z⟩
      rw [List.getElem?_eq_none hl2, List.getElem?_eq_none (by omega)]
    · exact h i fun z => hi (hj i z)
theorem Env.wipe {D0 H0 D H : Hp} {σ : L2.St} (e : Env K W D0 H0 D H σ ρ) : ∀ vs : List Nat, (∀ v ∈ vs, v < ρ.length) → Env K W D0 H0 D H (L2.wipe σ vs) (wipeR ρ vs)
  | [], _ => e
  | v :: vs, h => (Env.wipe e vs fun w hw => h w (List.mem_cons_of_mem _ hw)).setAny (by rw [wipeR_len]; exact h v List.mem_cons_self)

variable {wi : TI} {g : TG} {tt : TT} {vs : List Nat} {P : List PyData → Prop}
/-- [e for x in .. if t]: Iv, of the turn and of the items so far -/
theorem evf_lc (hv : ∀ v ∈ vs, v < ρ.length) (hI : EvI K W wi ρ P) (Iv : List PyData → Nat → List PyData → Prop) (h0 : ∀ ds, P ds → Iv ds 0 []) (hn : ∀ ds, P ds → ds.length ≤ 100000)
    (hs : ∀ ds i d acc, P ds → ds[i]? = some d → Iv ds i acc → ∃ ρ' js Pt Pe, (∀ j ∈ js, j ∈ vs) ∧ EvG K W g (wipeR ρ vs) d ρ' js ∧ EvT K W tt ρ' Pt ∧
      (Pt true → EvN K W te ρ' Pe ∧ ∀ y, Pe y → Iv ds (i + 1) (acc ++ [y])) ∧ (Pt false → Iv ds (i + 1) acc)) :
    EvF K W (tLc wi g tt te vs) ρ (fun es => ∃ ds, P ds ∧ Iv ds ds.length es) := fun D0 H0 D H σ e Q q => by
  refine hI D0 H0 D H σ e _ fun J D1 H1 ds s1 wk p => ?_
  intro L hL
  have e1 := e.step s1
  have o1 := e1.ok
  have hHL : H L = none := by
    cases z : H L with
    | none => rfl
    | some u =>
      by_cases hw : W.adr L
      · exact (W.has H1 L s1.inv hw hL).elim
      · rw [s1.off L u hw z] at hL
        cases hL
  have hwL : ¬ W.adr L := fun hw => W.has H1 L s1.inv hw hL
  -- the invariant: from (D1, H1) without L
  let St (i : Nat) (H2 : Hp) : Prop := i ≤ ds.length ∧ ∃ D2 xs acc, Step W D1 H1 D2 H2 ∧ D2 L = none ∧ H2 L = some (.lst xs) ∧ DqA K D2 xs acc ∧ acc.length ≤ i ∧ Iv ds i acc
  have sL : Step W D1 H1 D1 (upd H1 L (.lst [])) := .keptH o1 (same_new hL)
  refine ⟨fun i m H2 => m = ds.length - i ∧ St i H2, ⟨_, rfl, Nat.zero_le _, D1, [], [], sL, o1.sub.free hL, upd_same, .nil, Nat.le_refl _, h0 ds p⟩, ?_⟩
  rintro i m H2 ⟨rfl, hi, D2, xs, acc, s2, d2, l2, q2, hlen, iv⟩
  have e2 := e1.step s2
  by_cases hlt : i < ds.length
  · have hd : ds[i]? = some ds[i] := List.getElem?_eq_getElem hlt
    obtain ⟨hgo, hy⟩ := (wk i D2 H2 e2.ok s2.gro).1 _ hd
    refine Or.inr ⟨hgo, St (i + 1), fun H' h' => ⟨_, ?_, rfl, h'⟩, fun x H3 y => ?_⟩
    · have := h'.1
      omega
    · obtain ⟨D3, s3, qx⟩ := hy x H3 y
      obtain ⟨ρ', js, Pt, Pe, hjs, hg, ht, hT, hF⟩ := hs ds i _ acc p hd iv
      have e3 := (e2.step s3).wipe vs hv
      refine hg D0 H0 D3 H3 _ e3 x qx _ fun σ4 D4 H4 s4 e4 l4 c4 => ⟨?_, ?_⟩
      · rw [wipe_eq l4 hjs c4, wipe_idem]
      · refine ht D0 H0 D4 H4 σ4 e4 _ fun b D5 H5 s5 pb => ?_
        have e5 := e4.step s5
        have sA : Step W D2 H2 D5 H5 := (s3.trans e2.ok s4).trans e2.ok s5
        cases b with
        | false =>
          refine iteF ⟨hlt, D5, xs, acc, s2.trans o1 sA, ?_, sA.off L _ hwL l2, q2.up sA.gro, Nat.le_succ_of_le hlen, hF pb⟩
          exact sA.new L d2 (by rw [l2]; exact fun z => nomatch z)
        | true =>
          obtain ⟨hE, hP⟩ := hT pb
          refine iteT (hE D0 H0 D5 H5 σ4 e5 _ fun v D6 H6 d6 s6 q6 p6 => ?_)
          have sB : Step W D2 H2 D6 H6 := sA.trans e2.ok s6
          have l6 : H6 L = some (.lst xs) := sB.off L _ hwL l2
          have n6 : D6 L = none := sB.new L d2 (by rw [l2]; exact fun z => nomatch z)
          have sC : Step W D1 H1 D6 H6 := s2.trans o1 sB
          refine ⟨xs, l6, ?_, hlt, D6, xs ++ [v], acc ++ [d6], ⟨sC.gro, fun b u z => ?_, fun b u hw z => ?_, sC.new, ?_⟩, n6, upd_same, (q2.up sB.gro).app (.cons q6 .nil), by rw [List.length_append]; exact Nat.succ_le_succ hlen, hP d6 p6⟩
          · have h1 := hn ds p
            have h2 : xs.length ≤ 100000 := by
              rw [q2.len]
              omega
            exact Nat.lt_of_le_of_lt h2 (by decide)
          · rw [upd_ne (fun w => by rw [w, n6] at z; cases z)]
            exact sC.sub b u z
          · rw [upd_ne (fun w => by rw [w, hL] at z; cases z)]
            exact sC.off b u hw z
          · refine W.keep H6 _ sC.inv fun b u hb z => ?_
            rw [upd_ne (fun w => hwL (by rw [← w]; exact hb))]
            exact z
  · have hie : i = ds.length := by omega
    subst hie
    refine Or.inl ⟨(wk _ D2 H2 e2.ok s2.gro).2 (Nat.le_refl _), ?_⟩
    exact q L xs D2 H2 acc (s1.trans e.ok s2) hHL d2 l2 q2 ⟨ds, p, iv⟩
/-- .. where nothing is drawn: a filter and a map -/
theorem evf_map (hv : ∀ v ∈ vs, v < ρ.length) (hI : EvI K W wi ρ (· = ds)) (hn : ds.length ≤ 100000) (p : PyData → Bool) (f : PyData → PyData)
    (hs : ∀ d, d ∈ ds → ∃ ρ' js, (∀ j ∈ js, j ∈ vs) ∧ EvG K W g (wipeR ρ vs) d ρ' js ∧ EvT K W tt ρ' (· = p d) ∧ (p d = true → EvD K W te ρ' (f d))) :
    EvF K W (tLc wi g tt te vs) ρ (· = (ds.filter p).map f) := by
  refine (evf_lc hv hI (fun ds' i acc => ds' = ds ∧ acc = ((ds.take i).filter p).map f) (fun _ e => ⟨e, by simp⟩) (fun _ e => by rw [e]; exact hn) ?_).imp ?_
  · rintro ds' i d acc e hd ⟨_, ha⟩
    subst e
    obtain ⟨ρ', js, h1, h2, h3, h4⟩ := hs d (List.mem_of_getElem? hd)
    have hi : i < ds'.length := (List.getElem?_eq_some_iff.mp hd).1
    have ht : ds'.take (i + 1) = ds'.take i ++ [d] := by rw [List.take_add_one, hd]; rfl
    refine ⟨ρ', js, _, (· = f d), h1, h2, h3, fun hp => ⟨h4 hp.symm, fun y hy => ⟨rfl, ?_⟩⟩, fun hp => ⟨rfl, ?_⟩⟩
    · subst hy
      rw [ht, List.filter_append, List.map_append, ← ha]
      simp [← hp]
    · rw [ht, List.filter_append, List.map_append, ← ha]
      simp [← hp]
  · rintro es ⟨ds', e, _, h⟩
    subst e
    rw [h, List.take_length]
theorem pt_yes : EvT K W tYes ρ (· = true) := fun D0 H0 D H σ e Q q => q true D H (.refl e.ok) rfl

/-! ### loops -/
variable {tb tr : TS} {O : Out} {EX : Hp → Prop}
theorem st_for (hI : EvI K W wi ρ P) (Iv : List PyData → Nat → List Sk → Prop) (N : List Sk → Prop) (h0 : ∀ ds, P ds → Iv ds 0 ρ)
    (hs : ∀ ds i d ρ1, P ds → ds[i]? = some d → Iv ds i ρ1 → ∃ ρ2 js, EvG K W g ρ1 d ρ2 js ∧ StG K W EX tb ρ2 { nx := Iv ds (i + 1), ct := Iv ds (i + 1), bk := N, rt := O.rt, xr := O.xr })
    (hd : ∀ ds ρ', P ds → Iv ds ds.length ρ' → N ρ') (k : ∀ ρ', N ρ' → StG K W EX tr ρ' O) : StG K W EX (tSeq (tFor wi g tb) tr) ρ O := by
  refine st_seq (N := N) (fun D0 H0 D H σ Dn e kn kb kc kr kx => ?_) k
  refine hI D0 H0 D H σ e _ fun J D1 H1 ds s1 wk p => ?_
  have e1 := e.step s1
  let At (i : Nat) (σ2 : L2.St) (H2 : Hp) : Prop := i ≤ ds.length ∧ ∃ D2 ρ2, Same D1 D2 ∧ Env K W D0 H0 D2 H2 σ2 ρ2 ∧ Iv ds i ρ2
  refine ⟨fun i m σ2 H2 => m = ds.length - i ∧ At i σ2 H2, ⟨_, rfl, Nat.zero_le _, D1, ρ, Same.refl _, e1, h0 ds p⟩, ?_⟩
  rintro i m σ2 H2 ⟨rfl, hi, D2, ρ2, g2, e2, iv⟩
  by_cases hlt : i < ds.length
  · have hd' : ds[i]? = some ds[i] := List.getElem?_eq_getElem hlt
    obtain ⟨hgo, hy⟩ := (wk i D2 H2 e2.ok g2).1 _ hd'
    refine Or.inr ⟨hgo, At (i + 1), fun σ' H' h' => ⟨_, ?_, rfl, h'⟩, fun x H3 y => ?_⟩
    · have := h'.1
      omega
    · obtain ⟨D3, s3, qx⟩ := hy x H3 y
      obtain ⟨ρ3, js, hg, hb⟩ := hs ds i _ ρ2 p hd' iv
      refine hg D0 H0 D3 H3 _ (e2.step s3) x qx _ fun σ4 D4 H4 s4 e4 l4 c4 => ?_
      have g4 : Same D1 D4 := (g2.trans s3.gro).trans s4.gro
      refine hb D0 H0 D4 H4 σ4 _ e4 (fun σ' D' H' ρ' gr e' n => ⟨hlt, D', ρ', g4.trans gr, e', n⟩) (fun σ' D' H' ρ' gr e' n => kn σ' D' H' ρ' (s1.gro.trans (g4.trans gr)) e' n) (fun σ' D' H' ρ' gr e' n => ⟨hlt, D', ρ', g4.trans gr, e', n⟩) kr kx
  · have hie : i = ds.length := by omega
    subst hie
    exact Or.inl ⟨(wk _ D2 H2 e2.ok g2).2 (Nat.le_refl _), kn σ2 D2 H2 ρ2 (s1.gro.trans g2) e2 (hd ds ρ2 p iv)⟩
theorem st_while {c : TT} (Iv : List Sk → Prop) (μ : List Sk → Nat) (N : List Sk → Prop) (h0 : Iv ρ)
    (hs : ∀ ρ1, Iv ρ1 → ∃ Pt : Bool → Prop, EvT K W c ρ1 Pt ∧ (Pt true → StG K W EX tb ρ1 { nx := fun ρ2 => Iv ρ2 ∧ μ ρ2 < μ ρ1, ct := fun ρ2 => Iv ρ2 ∧ μ ρ2 < μ ρ1, bk := N, rt := O.rt, xr := O.xr }) ∧ (Pt false → N ρ1))
    (k : ∀ ρ', N ρ' → StG K W EX tr ρ' O) : StG K W EX (tSeq (tWhile c tb) tr) ρ O := by
  refine st_seq (N := N) (fun D0 H0 D H σ Dn e kn kb kc kr kx => ?_) k
  refine ⟨fun m σ2 H2 => ∃ D2 ρ2, Same D D2 ∧ Env K W D0 H0 D2 H2 σ2 ρ2 ∧ Iv ρ2 ∧ m = μ ρ2, ⟨_, D, ρ, Same.refl _, e, h0, rfl⟩, ?_⟩
  rintro m σ2 H2 ⟨D2, ρ2, g2, e2, iv, rfl⟩
  obtain ⟨Pt, ht, hT, hF⟩ := hs ρ2 iv
  refine ht D0 H0 D2 H2 σ2 e2 _ fun b D3 H3 s3 pb => ?_
  have e3 := e2.step s3
  have g3 : Same D D3 := g2.trans s3.gro
  cases b with
  | true =>
    refine ⟨fun σ' H' => ∃ m', m' < μ ρ2 ∧ ∃ D' ρ', Same D D' ∧ Env K W D0 H0 D' H' σ' ρ' ∧ Iv ρ' ∧ m' = μ ρ', fun σ' H' h => h, ?_⟩
    exact hT pb D0 H0 D3 H3 σ2 _ e3 (fun σ' D' H' ρ' gr e' n => ⟨_, n.2, D', ρ', g3.trans gr, e', n.1, rfl⟩) (fun σ' D' H' ρ' gr e' n => kn σ' D' H' ρ' (g3.trans gr) e' n) (fun σ' D' H' ρ' gr e' n => ⟨_, n.2, D', ρ', g3.trans gr, e', n.1, rfl⟩) kr kx
  | false => exact kn σ2 D3 H3 ρ2 g3 e3 (hF pb)
end
end Dl

/-! ## Defs over data; the well -/
namespace Dl
open PySem PySem.Spec L2 PyProof.Rows

theorem Step.lift {W : Fx} {D H D' H' : Hp} (o : Ok W D H) (s : Step Fx.non D H D' H') : Step W D H D' H' :=
  .kept o s.gro s.sub (fun p u e => s.off p u (fun z => z) e) s.new
theorem Ok.non {W : Fx} {D H : Hp} (o : Ok W D H) : Ok Fx.non D H := ⟨o.sub, trivial, fun _ h => h.elim⟩

/-- the well: [its cells, a number, a count] -/
def Wl (a b : Addr) : Fx where
  root := .ref a
  adr c := c = a ∨ c = b
  inv H := a ≠ b ∧ ∃ (cs : List Int) (m n : Int), H a = some (.lst [.ref b, .int m, .int n]) ∧ H b = some (.lst (cs.map V.int))
  keep := fun H H' ⟨h, cs, m, n, h1, h2⟩ k => ⟨h, cs, m, n, k a _ (Or.inl rfl) h1, k b _ (Or.inr rfl) h2⟩
  has := fun H c ⟨_, cs, m, n, h1, h2⟩ hc => by
    rcases hc with rfl | rfl
    · rw [h1]
      exact fun z => nomatch z
    · rw [h2]
      exact fun z => nomatch z

def spN (K : PySem.W.Frag) (n : Nat) (Pre : List PyData → Prop) (Post : List PyData → PyData → Prop) : Sp := fun vs H Q _ =>
  ∃ D ds, Ok Fx.non D H ∧ DqA K D vs ds ∧ ds.length = n ∧ Pre ds ∧ ∀ v D' H' d, Step Fx.non D H D' H' → Dq K D' v d → Post ds d → Q v H'
def spW (K : PySem.W.Frag) (n : Nat) (Pre : List PyData → Prop) (Post : List PyData → PyData → Prop) : Sp := fun vs H Q _ =>
  ∃ a b vs' D ds, vs = .ref a :: vs' ∧ Ok (Wl a b) D H ∧ DqA K D vs' ds ∧ ds.length = n ∧ Pre ds ∧ ∀ v D' H' d, Step (Wl a b) D H D' H' → Dq K D' v d → Post ds d → Q v H'

section
variable {K : PySem.W.Frag} {W : Fx} {ρ : List Sk} {n : Nat} {Pre : List PyData → Prop} {Post : List PyData → PyData → Prop} {PA : List PyData → Prop} {ta : TA} {E : XK}
theorem ev_callN (h : EvA K W ta ρ PA) (hp : ∀ ds, PA ds → ds.length = n ∧ Pre ds) : EvN K W (tCall (spN K n Pre Post) [] E ta) ρ (fun d => ∃ ds, PA ds ∧ Post ds d) := fun D0 H0 D H σ e Q q =>
  h D0 H0 D H σ e _ fun vs D1 H1 ds s1 q1 p1 => by
    have o1 := s1.ok e.ok
    rw [List.append_nil]
    refine ⟨D1, ds, o1.non, q1, (hp ds p1).1, (hp ds p1).2, fun v D' H' d s2 q2 p2 => ?_⟩
    exact q v D' H' d (s1.trans e.ok (.lift o1 s2)) q2 ⟨ds, p1, p2⟩
theorem ev_callND {ds : List PyData} {P : PyData → Prop} (h : EvA K W ta ρ (· = ds)) (hl : ds.length = n) (hp : Pre ds) (hq : ∀ d, Post ds d → P d) : EvN K W (tCall (spN K n Pre Post) [] E ta) ρ P :=
  (ev_callN h fun _ e => by
    subst e
    exact ⟨hl, hp⟩).imp fun d ⟨ds', e, p⟩ => by
      subst e
      exact hq d p
theorem ev_callW {a b : Addr} {i : Nat} (hi : ρ[i]? = some .rt) (h : EvA K (Wl a b) ta ρ PA) (hp : ∀ ds, PA ds → ds.length = n ∧ Pre ds) :
    EvN K (Wl a b) (tCall (spW K n Pre Post) [] E (tCons (tVar i) ta)) ρ (fun d => ∃ ds, PA ds ∧ Post ds d) := fun D0 H0 D H σ e Q q => by
  obtain ⟨o, h1, h2⟩ := e.slot i _ hi
  have h3 : o = some (.ref a) := h2
  subst h3
  refine ⟨.ref a, h1, ?_⟩
  refine h D0 H0 D H σ e _ fun vs D1 H1 ds s1 q1 p1 => ?_
  show spW K n Pre Post ((.ref a :: vs) ++ []) H1 Q E
  rw [List.append_nil]
  refine ⟨a, b, vs, D1, ds, rfl, s1.ok e.ok, q1, (hp ds p1).1, (hp ds p1).2, fun v D' H' d s2 q2 p2 => ?_⟩
  exact q v D' H' d (s1.trans e.ok s2) q2 ⟨ds, p1, p2⟩
theorem ev_callWD {a b : Addr} {i : Nat} {ds : List PyData} {P : PyData → Prop} (hi : ρ[i]? = some .rt) (h : EvA K (Wl a b) ta ρ (· = ds)) (hl : ds.length = n) (hp : Pre ds) (hq : ∀ d, Post ds d → P d) :
    EvN K (Wl a b) (tCall (spW K n Pre Post) [] E (tCons (tVar i) ta)) ρ P :=
  (ev_callW hi h fun _ e => by
    subst e
    exact ⟨hl, hp⟩).imp fun d ⟨ds', e, p⟩ => by
      subst e
      exact hq d p
end

theorem start_at (N : List Str) (vs : List V) {i : Nat} (h : i < vs.length) : (start N vs)[i]? = some (vs[i]?) := by
  unfold L2.start
  rw [List.getElem?_append_left (by simpa using h), List.getElem?_map, List.getElem?_eq_getElem h]
  rfl
theorem start_lt (N : List Str) (vs : List V) {i : Nat} (h : i < N.length) : ∃ o, (start N vs)[i]? = some o := by
  unfold L2.start
  exact ⟨_, List.getElem?_eq_getElem (by rw [List.length_append, List.length_map, List.length_replicate]; omega)⟩

/-- the slots at a def's entry -/
def ins (N : List Str) (ds : List PyData) : List Sk := ds.map Sk.dat ++ List.replicate (N.length - ds.length) Sk.any
def insW (N : List Str) (ds : List PyData) : List Sk := .rt :: (ds.map Sk.dat ++ List.replicate (N.length - 1 - ds.length) Sk.any)
theorem env_start {K : PySem.W.Frag} {W : Fx} {D H : Hp} {N : List Str} {vs : List V} {ds : List PyData} (o : Ok W D H) (q : DqA K D vs ds) (hN : ds.length ≤ N.length) : Env K W D H D H (start N vs) (ins N ds) where
  ok0 := o
  st := .refl o
  slot := fun i k h => by
    unfold ins at h
    by_cases hi : i < ds.length
    · rw [List.getElem?_append_left (by simpa using hi), List.getElem?_map, List.getElem?_eq_getElem hi] at h
      cases h
      obtain ⟨v, h1, h2⟩ := q.at (List.getElem?_eq_getElem hi)
      refine ⟨some v, ?_, v, rfl, h2⟩
      rw [start_at N vs (by rw [q.len]; exact hi), h1]
    · rw [List.getElem?_append_right (by simpa using hi), List.getElem?_replicate] at h
      split at h
      · rename_i hlt
        cases h
        obtain ⟨w, hw⟩ := start_lt N vs (i := i) (by rw [List.length_map] at hlt; omega)
        exact ⟨w, hw, trivial⟩
      · cases h
  dist := fun i j l s t es fs h => by
    unfold ins at h
    by_cases hi : i < ds.length
    · rw [List.getElem?_append_left (by simpa using hi), List.getElem?_map, List.getElem?_eq_getElem hi] at h
      cases h
    · rw [List.getElem?_append_right (by simpa using hi), List.getElem?_replicate] at h
      split at h <;> cases h
theorem env_startW {K : PySem.W.Frag} {a b : Addr} {D H : Hp} {N : List Str} {vs : List V} {ds : List PyData} (o : Ok (Wl a b) D H) (q : DqA K D vs ds) (hN : ds.length + 1 ≤ N.length) : Env K (Wl a b) D H D H (start N (.ref a :: vs)) (insW N ds) where
  ok0 := o
  st := .refl o
  slot := fun i k h => by
    unfold insW at h
    cases i with
    | zero =>
      cases h
      exact ⟨some (.ref a), by rw [start_at N _ (by simp)]; rfl, rfl⟩
    | succ i =>
      rw [List.getElem?_cons_succ] at h
      by_cases hi : i < ds.length
      · rw [List.getElem?_append_left (by simpa using hi), List.getElem?_map, List.getElem?_eq_getElem hi] at h
        cases h
        obtain ⟨v, h1, h2⟩ := q.at (List.getElem?_eq_getElem hi)
        refine ⟨some v, ?_, v, rfl, h2⟩
        rw [start_at N _ (by rw [List.length_cons, q.len]; omega), List.getElem?_cons_succ, h1]
      · rw [List.getElem?_append_right (by simpa using hi), List.getElem?_replicate] at h
        split at h
        · rename_i hlt
          cases h
          obtain ⟨w, hw⟩ := start_lt N (.ref a :: vs) (i := i + 1) (by rw [List.length_map] at hlt; omega)
          exact ⟨w, hw, trivial⟩
        · cases h
  dist := fun i j l s t es fs h => by
    unfold insW at h
    cases i with
    | zero => cases h
    | succ i =>
      rw [List.getElem?_cons_succ] at h
      by_cases hi : i < ds.length
      · rw [List.getElem?_append_left (by simpa using hi), List.getElem?_map, List.getElem?_eq_getElem hi] at h
        cases h
      · rw [List.getElem?_append_right (by simpa using hi), List.getElem?_replicate] at h
        split at h <;> cases h

section
variable {P : Program} {w : World} {K : PySem.W.Frag} {mg : Str → Option Value} {base : Heap} {C : CXT} {x qual : Str} {st : Stmt} {f : Addr} {fd : FuncData} {N ps : List Str} {k : Nat} {Pre : List PyData → Prop} {Post : List PyData → PyData → Prop}
theorem StG.run {W : Fx} {EX : Hp → Prop} {xr : Prop} {D H : Hp} {σ : L2.St} {ρ : List Sk} {ts : TS} {Q : VK} {Pt : PyData → Prop} (h : StG K W EX ts ρ { nx := fun _ => Pt .none, rt := Pt, xr := xr }) (e : Env K W D H D H σ ρ)
    (q : ∀ v D' H' d, Step W D H D' H' → Dq K D' v d → Pt d → Q v H') (x : ∀ D' H', Step W D H D' H' → xr → EX H') : ts { nx := fun _ H' => Q .non H', rt := Q } σ H :=
  h D H D H σ _ e (fun σ' D' H' ρ' _ e' p => q .non D' H' .none e'.st .non p) (fun _ _ _ _ _ _ p => p.elim) (fun _ _ _ _ _ _ p => p.elim) q x
/-- a def over data -/
theorem ok_N (F : Fun K x qual st f fd) (S : FnScope N ps (defScope st)) (hb : ∀ (cdv : Value) (A : Around) (outer : List PySem.Env) (s : Shared) (H : Hp) (E : XK),
      Room k (A.deeper (envOfC qual (defScope st) s.heap.objs.size f cdv)) → ∀ ds, ds.length = ps.length → Pre ds →
      ∃ t, PSs (cxOf CX0 P w K mg base N qual (defScope st) f cdv A outer s H E).nox (defBody st) t ∧ StG K Fx.non (fun _ => False) t (ins N ds) { nx := fun _ => Post ds .none, rt := Post ds }) :
    FnOk P w K mg base CX0 (k + 1) f fd ps (spN K ps.length Pre Post) := by
  refine F.ok S (fun vs H Q E h => ?_) (fun cdv A outer s H vs Q E hr h => ?_)
  · obtain ⟨D, ds, _, q, hl, _⟩ := h
    rw [q.len]
    exact hl
  · obtain ⟨D, ds, o, q, hl, p, k⟩ := h
    obtain ⟨t, ht, hg⟩ := hb cdv A outer s H E hr ds hl p
    refine ⟨t, ht, hg.run (env_start o q ?_) k fun _ _ _ z => z⟩
    have hp : ps.length ≤ N.length := by
      have := congrArg List.length S.pre
      rw [List.length_take] at this
      omega
    omega
/-- .. that draws -/
theorem ok_W {p0 : Str} (F : Fun K x qual st f fd) (S : FnScope N (p0 :: ps) (defScope st)) (hb : ∀ (a b : Addr) (cdv : Value) (A : Around) (outer : List PySem.Env) (s : Shared) (H : Hp) (E : XK),
      Room k (A.deeper (envOfC qual (defScope st) s.heap.objs.size f cdv)) → ∀ ds, ds.length = ps.length → Pre ds →
      ∃ t, PSs (cxOf CX0 P w K mg base N qual (defScope st) f cdv A outer s H E).nox (defBody st) t ∧ StG K (Wl a b) (fun _ => False) t (insW N ds) { nx := fun _ => Post ds .none, rt := Post ds }) :
    FnOk P w K mg base CX0 (k + 1) f fd (p0 :: ps) (spW K ps.length Pre Post) := by
  refine F.ok S (fun vs H Q E h => ?_) (fun cdv A outer s H vs Q E hr h => ?_)
  · obtain ⟨a, b, vs', D, ds, e, _, q, hl, _⟩ := h
    rw [e, List.length_cons, q.len, hl]
    rfl
  · obtain ⟨a, b, vs', D, ds, e, o, q, hl, p, k⟩ := h
    subst e
    obtain ⟨t, ht, hg⟩ := hb a b cdv A outer s H E hr ds hl p
    refine ⟨t, ht, hg.run (env_startW o q ?_) k fun _ _ _ z => z⟩
    have hp : (p0 :: ps).length ≤ N.length := by
      have := congrArg List.length S.pre
      rw [List.length_take] at this
      omega
    rw [List.length_cons] at hp
    omega
end
/-- a def over data that may raise its error -/
def spR (K : PySem.W.Frag) (cls : Value) (n : Nat) (Pre : List PyData → Prop) (g : List PyData → Option PyData) : Sp := fun vs H Q E =>
  ∃ D ds, Ok Fx.non D H ∧ DqA K D vs ds ∧ ds.length = n ∧ Pre ds ∧ (∀ v D' H' d, Step Fx.non D H D' H' → Dq K D' v d → g ds = some d → Q v H') ∧ ∀ D' H', Step Fx.non D H D' H' → g ds = none → E cls none H'
section
variable {K : PySem.W.Frag} {W : Fx} {ρ : List Sk} {n : Nat} {cls : Value} {Pre : List PyData → Prop} {g : List PyData → Option PyData} {PA : List PyData → Prop} {ta : TA} {E : XK}
theorem evr_call (h : EvA K W ta ρ PA) (hp : ∀ ds, PA ds → ds.length = n ∧ Pre ds) :
    EvR K W (fun H => E cls none H) (tCall (spR K cls n Pre g) [] E ta) ρ (fun d => ∃ ds, PA ds ∧ g ds = some d) (∃ ds, PA ds ∧ g ds = none) := fun D0 H0 D H σ e Q q x =>
  h D0 H0 D H σ e _ fun vs D1 H1 ds s1 q1 p1 => by
    have o1 := s1.ok e.ok
    rw [List.append_nil]
    refine ⟨D1, ds, o1.non, q1, (hp ds p1).1, (hp ds p1).2, fun v D' H' d s2 q2 p2 => ?_, fun D' H' s2 p2 => ?_⟩
    · exact q v D' H' d (s1.trans e.ok (.lift o1 s2)) q2 ⟨ds, p1, p2⟩
    · exact x D' H' (s1.trans e.ok (.lift o1 s2)) ⟨ds, p1, p2⟩
theorem evr_callD {ds : List PyData} (h : EvA K W ta ρ (· = ds)) (hl : ds.length = n) (hp : Pre ds) :
    EvR K W (fun H => E cls none H) (tCall (spR K cls n Pre g) [] E ta) ρ (fun d => g ds = some d) (g ds = none) :=
  (evr_call h fun _ e => by
    subst e
    exact ⟨hl, hp⟩).imp (fun d ⟨ds', e, p⟩ => by
      subst e
      exact p) fun ⟨ds', e, p⟩ => by
      subst e
      exact p
end
section
variable {P : Program} {w : World} {K : PySem.W.Frag} {mg : Str → Option Value} {base : Heap} {x qual : Str} {st : Stmt} {f : Addr} {fd : FuncData} {N ps : List Str} {k : Nat} {cls : Value} {Pre : List PyData → Prop} {g : List PyData → Option PyData}
theorem ok_R (F : Fun K x qual st f fd) (S : FnScope N ps (defScope st)) (hb : ∀ (cdv : Value) (A : Around) (outer : List PySem.Env) (s : Shared) (H : Hp) (E : XK),
      Room k (A.deeper (envOfC qual (defScope st) s.heap.objs.size f cdv)) → ∀ ds, ds.length = ps.length → Pre ds →
      ∃ t, PSs (cxOf (L2.CX P w) P w K mg base N qual (defScope st) f cdv A outer s H E) (defBody st) t ∧
        StG K Fx.non (fun H => E cls none H) t (ins N ds) { nx := fun _ => g ds = some .none, rt := fun d => g ds = some d, xr := g ds = none }) :
    FnOk P w K mg base (L2.CX P w) (k + 1) f fd ps (spR K cls ps.length Pre g) := by
  refine F.okX S (fun vs H Q E h => ?_) (fun cdv A outer s H vs Q E hr h => ?_)
  · obtain ⟨D, ds, _, q, hl, _⟩ := h
    rw [q.len]
    exact hl
  · obtain ⟨D, ds, o, q, hl, p, k, x⟩ := h
    obtain ⟨t, ht, hg⟩ := hb cdv A outer s H E hr ds hl p
    refine ⟨t, ht, hg.run (env_start o q ?_) k x⟩
    have hp : ps.length ≤ N.length := by
      have := congrArg List.length S.pre
      rw [List.length_take] at this
      omega
    omega
end
end Dl

/-! ## Further rules -/
namespace Dl
open PySem PySem.Spec PyProof.Rows L2

/-! ### a call by keywords alone -/
structure KwB (K : PySem.W.Frag) (fd : FuncData) (ps ks : List Str) (g : {α : Type} → List α → List α) : Prop where
  to : ∀ (s : Shared) (ws : List Value), ws.length = ks.length → BindsTo s fd ⟨[], ks.zip ws⟩ (ps.zip (g ws))
  rel : ∀ {zs : List V} {ws : List Value}, zs.length = ks.length → Vals zs ws → Vals (g zs) (g ws)
def tKw (n : Nat) (g : {α : Type} → List α → List α) (sp : Sp) (E : L2.St → XK) (t : TA) : TE := fun σ H Q => t σ H fun vs H1 => vs.length = n ∧ sp (g vs) H1 Q (E σ)
section
variable {X : Cx} {C : CXT} {k : Nat} {f : Addr} {fd : FuncData} {ps ks : List Str} {sp : Sp} {E : L2.St → XK} {x : Str} {p pos : Pos} {kws : List Keyword} {t : TA} {g : {α : Type} → List α → List α}
theorem pe_kw (F : FnOk X.prog X.w X.K X.mg X.base C k f fd ps sp) (hr : Room k X.A) (hg : Gl X x) (hm : X.mg x = some (.ref f)) (hk : PySem.W.keepIn X.K (.ref f) = true) (hb : KwB X.K fd ps ks g)
    (hx : ∀ σ, PassesAt C X σ (E σ)) (hkw : PK X kws t) (hall : (backToKw pos (keywordEach kws X.env)).all (·.1.isSome) = true := by rfl) (hks : (backToKw pos (keywordEach kws X.env)).filterMap (·.1) = ks := by rfl)
    (hdb : (x == ("__debug__" : Str)) = false := by decide) (hpl : ((backTo pos (starEach [] X.env)).any (·.1) || (backToKw pos (keywordEach kws X.env)).any (·.1.isNone)) = false := by rfl) :
    PE X (.Call (.Name x p) [] kws pos) (tKw ks.length g sp E t) := by
  constructor
  intro pins s σ H Q I h
  apply wpAny_Call_Name_kw (ld_glob I hg hm ?_ hdb)
  apply PySem.W.callWith_KW0 (h₀ := X.base) I.ok.mod.kin hk hall (thn (hkw.run pos pins s σ H _ I h) ?_) hpl
  rintro ws s1 ⟨zs, H1, I1, rz, hl, q⟩
  refine ⟨I1.kIn, ?_⟩
  rw [hks]
  show wpAny _ _ (call (.ref f) [] (ks.zip ws)) _ _ _
  have hl2 : ws.length = ks.length := rz.length.symm.trans hl
  apply wpAny_call
  apply codeAny_mono (F.run X.A X.stack s1 H1 ⟨[], ks.zip ws⟩ (g ws) (g zs) Q (E σ) hr I1.env0 (hb.to s1 ws hl2) (hb.rel hl rz) q)
  intro res s' hq
  match res, hq with
  | .error er, hq => exact hx σ pins H1 s1 er s' I1 hq
  | .ok (.ret u), hq => exact I1.after hq
  | .ok .next, hq => exact hq.elim
  | .ok .brk, hq => exact hq.elim
  | .ok .cont, hq => exact hq.elim
theorem passAt0 {X : Cx} : ∀ σ : L2.St, PassesAt CX0 X σ (fun _ _ _ => False) := fun _ _ _ _ _ _ _ h => h.elim
end
def g1 : {α : Type} → List α → List α := fun l => l
def g2 : {α : Type} → List α → List α
  | _, [a, b] => [b, a]
  | _, l => l
theorem Fun.kw1 {K : PySem.W.Frag} {x qual : Str} {st : Stmt} {f : Addr} {fd : FuncData} {ps ks : List Str} (F : Fun K x qual st f fd)
    (h : ∀ (kV doc pm : Value) (an : Option Addr) (cdv ct : Value) (us : List Value), us.length = ks.length → bindArgs (PySem.W.fnOf x qual (defArgs st) (defBody st) (defScope st) .none kV doc pm an cdv ct) ⟨[], ks.zip us⟩ = pure (ps.zip us)) : KwB K fd ps ks g1 := by
  obtain ⟨oc, od, kV, doc, pm, an, cdv, ct, osl, rfl, lk, hcd⟩ := F.ex
  exact ⟨fun s ws hl => BindsTo.of_eq (h kV doc pm an cdv ct ws hl), fun _ r => r⟩
theorem Fun.kw2 {K : PySem.W.Frag} {x qual : Str} {st : Stmt} {f : Addr} {fd : FuncData} {ps : List Str} {k1 k2 : Str} (F : Fun K x qual st f fd)
    (h : ∀ (kV doc pm : Value) (an : Option Addr) (cdv ct : Value) (a b : Value), bindArgs (PySem.W.fnOf x qual (defArgs st) (defBody st) (defScope st) .none kV doc pm an cdv ct) ⟨[], [(k1, a), (k2, b)]⟩ = pure (ps.zip [b, a])) : KwB K fd ps [k1, k2] g2 := by
  obtain ⟨oc, od, kV, doc, pm, an, cdv, ct, osl, rfl, lk, hcd⟩ := F.ex
  refine ⟨fun s ws hl => ?_, fun hl r => ?_⟩
  · match ws, hl with
    | [a, b], _ => exact BindsTo.of_eq (h kV doc pm an cdv ct a b)
  · match r, hl with
    | .cons r1 (.cons r2 .nil), _ => exact .cons r2 (.cons r1 .nil)

/-! ### f"{i:02d}" -/
def two (i : Int) : Str := if decide (i < 10) = true then (⟨#[48]⟩ : Str) ++ Str.ofString (toString i) else Str.ofString (toString i)
def tF2 (te : TE) : TE := fun σ H Q => te σ H fun x H1 => ∃ i : Int, x = .int i ∧ 0 ≤ i ∧ i < 100 ∧ Q (.str (two i)) H1
theorem pe_f2 {X : Cx} {e : Expr} {te : TE} {pos p1 p2 : Pos} {j} (hnd : X.base.NoDigits) (he : PE X e te) :
    PE X (.FormattedValue e (-1) (some (.JoinedStr [.Constant (.str "02d") j p1] p2)) pos) (tF2 te) := by
  refine ⟨fun pins s σ H Q I h => ?_⟩
  refine wpAny_FormattedValue_spec (thn (he.run pins s σ H _ I h) fun v s1 hv => ?_)
  obtain ⟨x, H1, I1, r1, i, e1, h0, h1, q⟩ := hv
  subst e1
  obtain ⟨t, rfl⟩ := r1
  have hs : PE X (.JoinedStr [.Constant (.str "02d") j p1] p2) (tC (.str "02d")) := pe_joined1 pe_str
  refine thn (hs.run pins s1 σ H1 (fun v' H' => v' = .str "02d" ∧ Q (.str (two i)) H') I1 ⟨rfl, q⟩) fun r s2 hr => ?_
  obtain ⟨y, H2, I2, r2, e2, q2⟩ := hr
  subst e2
  obtain ⟨t2, rfl⟩ := r2
  refine ⟨_, _, rfl, ?_⟩
  refine formatField_int_specOf (hnd.keeps I2.bk) (lt_digitLimit_of_lt (by omega)) (by decide) fun W hW F => ?_
  have hp := F.pad2 (by decide) (hW.trans (by decide)) h0 h1
  rw [hp]
  exact ⟨.str (two i), H2, I2.tok _, ⟨_, rfl⟩, q2⟩

/-! ### list(text), text * n -/
theorem call_list_strQ {X : Cx} (hc : X.calm = true) : CallR X (.type "list") (fun xs H Q => ∃ z : Str, xs = [.str z] ∧ z.length ≤ sizeLine ∧ ∀ l, H l = none → Q (.ref l) (upd H l (.lst (z.cps.toList.map fun c => V.str ⟨#[c]⟩)))) := by
  intro pins s σ H xs us Q I r h
  obtain ⟨z, rfl, hz, q⟩ := h
  obtain ⟨u, rfl, t, rfl⟩ := vals1 r
  refine call_list_str (I.ok.hd hc) z t (fun h' tk acc c' hk hS hacc => ?_) hz
  obtain ⟨h1, h2⟩ := hacc
  have rv : Vals (z.cps.toList.map fun c => V.str ⟨#[c]⟩) acc.toList := by
    have aux : ∀ (cs : List Nat) (vs : List Value), cs.length = vs.length → (∀ (j : Nat) v, vs[j]? = some v → ∃ c u, cs[j]? = some c ∧ v = .str ⟨#[c]⟩ u) → Vals (cs.map fun c => V.str ⟨#[c]⟩) vs := by
      intro cs
      induction cs with
      | nil =>
        intro vs hl _
        cases vs with
        | nil => exact .nil
        | cons _ _ => simp at hl
      | cons c cs ih =>
        intro vs hl hh
        cases vs with
        | nil => simp at hl
        | cons v vs =>
          obtain ⟨c', u, e1, e2⟩ := hh 0 v rfl
          cases e1
          refine .cons ⟨u, e2⟩ (ih vs (by simpa using hl) fun j w hw => ?_)
          exact hh (j + 1) w (by simpa using hw)
    refine aux _ _ (by simp [h1]) fun j v hj => ?_
    obtain ⟨c, u, e1, e2⟩ := h2 j v (by simpa using hj)
    exact ⟨c, u, by simpa using e1, e2⟩
  exact ⟨.ref s.heap.objs.size, _, I.laid (t' := tk) hk (Nat.le_refl _) (show ObjOk X.prog X.w _ h' _ (.lst _) from ⟨by rw [List.length_map]; exact hz, _, c', rv, hS⟩), rfl, q _ (I.hok.fresh (Nat.le_refl _))⟩
def times (z : Str) (n : Nat) : Str := ⟨(List.replicate n z.cps).foldl (· ++ ·) #[]⟩
theorem op_repS {X : Cx} : OpR X (binaryOp .Mult) (fun x y H Q => ∃ (z : Str) (n : Int), x = .str z ∧ y = .int n ∧ 2 ≤ n ∧ n ≤ 100000 ∧ 1 ≤ z.length ∧ z.length ≤ 100 ∧ (times z n.toNat).length ≤ sizeLine ∧ Q (.str (times z n.toNat)) H) := by
  intro pins s σ H x y v u Q I rx ry h
  obtain ⟨z, n, rfl, rfl, h1, h2, h3, h4, h5, q⟩ := h
  obtain ⟨t, rfl⟩ := rx
  obtain ⟨t2, rfl⟩ := ry
  have e1 : ¬ n < 1 := by omega
  have e2 : ¬ ((n == 1 || z.length == 0) = true) := by
    simp only [Bool.or_eq_true, beq_iff_eq]
    omega
  refine PySem.P.mul_str ?_ (fun _ _ => ?_) (fun _ _ => ?_) ?_
  · simp only [Bool.or_eq_false_iff, decide_eq_false_iff_not]
    omega
  · have : n ≤ 100000 := h2
    have h6 : (2 ^ 63 - 1 : Int) / n ≥ 1000 := by
      have : (1000 : Int) * n ≤ 2 ^ 63 - 1 := by omega
      exact (Int.le_ediv_iff_mul_le (by omega)).mpr this
    omega
  · have h6 : z.length * n.toNat ≤ 100 * 100000 := Nat.mul_le_mul h4 (by omega)
    unfold PySem.Builtin.Str.tooLong
    simp only [sizeLine_eq, decide_eq_false_iff_not]
    omega
  · rw [if_neg e1, if_neg e2]
    exact ⟨h5, .str _, H, I.tok _, ⟨_, rfl⟩, q⟩

/-! ### raise X() -/
theorem pmk_own0 {X : Cx} {C : Addr} {bmB : List Value} {B newId initId : String} {x : Str} {p pos : Pos} (F : ExcBaseFacts B newId initId bmB) (q : PySem.W.excIn X.K C bmB newId = true) (gC : X.mg x = some (.ref C)) (kC : PySem.W.keepIn X.K (.ref C) = true) (r : Raises X (.ref C)) (hg : Gl X x)
    (hdb : (x == ("__debug__" : Str)) = false := by decide) : PMk X (.Call (.Name x p) [] [] pos) (fun _ H Q => Q (.ref C) none H) := by
  intro pins s σ H Q I h
  refine wpAny_Call_Name_kw (ld_glob I hg gC ?_ hdb)
  refine PySem.W.callWith_K0 I.kIn kC ?_
  show wpAny _ _ (call (.ref C) []) _ _ _
  obtain ⟨bm, N, nm, qn, bs, hdct, sn, sub, ab, col, dd, k0, k1, k2, k3, k5, mN, hC, hN, hni, T⟩ := exc_obj I.kIn q
  refine wpAny_call_exc_subT F T hC hN hni (fun h' e hm => ?_) (by show 0 ≤ sizeLine; omega)
  exact mk_of I hm r h (I.hok.gone hm.new)

/-! ### list(range(a, b, c)) -/
def rgC (a c : Int) (n : Nat) : List V := (List.range n).map fun i => V.int (a + ((i : Nat) : Int) * c)
theorem vals_rgC {a c : Int} {n : Nat} {acc : Array Value} (h : ItemsOf (fun i v => ∃ t, v = .int (a + i * c) t) acc n) : Vals (rgC a c n) acc.toList := by
  have e : acc.toList.length = n := by rw [Array.length_toList]; exact h.1
  unfold rgC
  rw [← e]
  refine vals_of_get acc.toList _ fun j u hj => ?_
  obtain ⟨t, rfl⟩ := h.2 j u (by rw [← hj, Array.getElem?_toList])
  exact ⟨t, rfl⟩
def tLstRg3 (ta : TA) : TE := fun σ H Q => ta σ H fun vs H1 => ∃ (i j c : Int) (n : Nat), vs = [.int i, .int j, .int c] ∧ RgC i j c n ∧ n ≤ 2 ^ 24 ∧ ∀ q, H1 q = none → Q (.ref q) (upd H1 q (.lst (rgC i c n)))
theorem pe_listRg3 {X : Cx} {a b c : Expr} {ta : TA} {p1 p2 pos1 pos2 : Pos} (hc : X.calm = true) (hg1 : Gl X "list") (hm1 : X.mg "list" = none) (hg : Gl X "range") (hm : X.mg "range" = none) (ha : PA X [a, b, c] ta)
    (hs : starEach [a, b, c] X.env = (false, eval a X.env) :: starEach [b, c] X.env := by rfl) (hpl : (backTo pos2 (starEach [b, c] X.env)).any (·.1) = false := by rfl)
    (na : starEach [.Call (.Name "range" p2) [a, b, c] [] pos2] X.env = (false, eval (.Call (.Name "range" p2) [a, b, c] [] pos2) X.env) :: starEach [] X.env := by rfl) :
    PE X (.Call (.Name "list" p1) [.Call (.Name "range" p2) [a, b, c] [] pos2] [] pos1) (tLstRg3 ta) := by
  refine ⟨fun pins s σ H Q I h => ?_⟩
  refine Call_ (ld_blt I hg1 hm1 boot_list (PyProof.Rows.callWith_type1 (args_cons (thn (Q := fun x s1 => ∃ r i j k n t u v H1, x = .ref r ∧ IsRange s1.heap r i j k t u v ∧ Inv X pins σ H1 s1 ∧ RgC i j k n ∧ n ≤ 2 ^ 24 ∧ ∀ q, H1 q = none → Q (.ref q) (upd H1 q (.lst (rgC i k n))))
    (Call_ (ld_blt I hg hm boot_range (PyProof.Rows.callWith_type1 (thn (ha.run pos2 pins s σ H _ I h) fun us s1 ⟨vs, H1, I1, r1, q1⟩ => ?_) hs hpl))) fun x s1 hx => args_nil ?_) na) na))
  · obtain ⟨i, j, k, n, e, ⟨c0, c1, c2, c3⟩, q0, q⟩ := q1
    subst e
    cases r1 with
    | cons r rr =>
      cases rr with
      | cons r' rr =>
        cases rr with
        | cons r'' rr =>
          cases rr
          obtain ⟨t, rfl⟩ := r
          obtain ⟨t', rfl⟩ := r'
          obtain ⟨t'', rfl⟩ := r''
          refine call_range_3 c0 ?_ (.inl (PyProof.noPylong_small c1))
          exact ⟨_, i, j, k, n, t, t', t'', H1, rfl, IsRange.new .., I1.kept (t' := s1.toks) fun b o e => Heap.get?_push_of_some _ e, ⟨c0, c1, c2, c3⟩, q0, q⟩
  · obtain ⟨r, i, j, k, n, t, u, v, H1, ex, hr, I1, ⟨c0, c1, c2, c3⟩, q0, q⟩ := hx
    subst ex
    refine call_list_range (n := n) (I1.ok.hd hc) hr c2 c3 q0 fun h' tk acc c' hk e' hi => ?_
    refine ⟨.ref s1.heap.objs.size, upd H1 s1.heap.objs.size (.lst (rgC i k n)), I1.laid hk (Nat.le_refl _) (show ObjOk X.prog X.w _ _ _ (.lst (rgC i k n)) from ⟨?_, acc.toList, c', vals_rgC hi, ?_⟩), rfl, q _ (I1.hok.fresh (Nat.le_refl _))⟩
    · unfold rgC
      rw [List.length_map, List.length_range, sizeLine_eq]
      omega
    · rw [Array.toArray_toList]
      exact e'

/-- an error of the class at S is what its except names -/
theorem exm_of {K : PySem.W.Frag} {S : Addr} (h1 : PySem.W.subIn K (.ref S) (.type "BaseException") = some true) (h2 : PySem.W.isClsIn K S = true) (h3 : PySem.W.typeIn K (.ref S) = some (.type "type")) (h4 : PySem.W.subIn K (.ref S) (.ref S) = some true) :
    PySem.W.exmOne K (.ref S) (.ref S) = some true := by
  have e1 : (PySem.W.subIn K (.ref S) (.type "BaseException") == some true) = true := by rw [h1] <;> rfl
  have e2 : ((PySem.W.clsIn K S).isSome && PySem.W.typeIn K (.ref S) == some (.type "type")) = true := by
    have h2' : (PySem.W.clsIn K S).isSome = true := h2
    rw [h2', h3] <;> rfl
  show (if (PySem.W.subIn K (.ref S) (.type "BaseException") == some true) = true then (if ((PySem.W.clsIn K S).isSome && PySem.W.typeIn K (.ref S) == some (.type "type")) = true then PySem.W.subIn K (.ref S) (.ref S) else none) else none) = some true
  rw [if_pos e1, if_pos e2]
  exact h4
theorem passAtL {X : Cx} : ∀ σ : L2.St, PassesAt (L2.CX X.prog X.w) X σ E0 := fun σ pins H s e s' I h => passL pins σ H s e s' I h
end Dl

/-! ## Operators and built-ins on data -/
namespace Dl
open PySem PySem.Spec PyProof.Rows L2

section
variable {K : PySem.W.Frag} {W : Fx} {EX : Hp → Prop} {ρ : List Sk} {P : PyData → Prop} {te ta tb tc : TE} {d : PyData} {ds : List PyData}

def rAddS : R2 := fun x y H Q => ∃ i j, x = V.str i ∧ y = V.str j ∧ i.length + j.length ≤ sizeLine ∧ Q (V.str (i ++ j)) H
theorem rd_addS {x y : Str} (h : x.length + y.length ≤ sizeLine) : RD K W rAddS (.str x) (.str y) (· = .str (x ++ y)) := fun D H u v o hu hv Q q => by
  cases hu
  cases hv
  exact ⟨x, y, rfl, rfl, h, q _ D H _ (.refl o) (.str _) rfl⟩
def rLenS : List V → Hp → VK → Prop := fun xs H Q => ∃ z : Str, xs = [V.str z] ∧ z.length ≤ sizeLine ∧ Q (V.int ↑z.length) H
theorem rc_lenS {z : Str} (h : z.length ≤ sizeLine) : RC K W rLenS [.str z] (· = .int z.length) := fun D H vs o hv Q q => by
  cases hv with
  | cons hx hn =>
    cases hn
    cases hx
    exact ⟨z, rfl, h, q _ D H _ (.refl o) (.int _) rfl⟩
def rStrI : List V → Hp → VK → Prop := fun xs H Q => ∃ i : Int, xs = [V.int i] ∧ i.natAbs.log2 < 1920 ∧ Q (V.str (Str.ofString (toString i))) H
theorem rc_strI {i : Int} (h : i.natAbs.log2 < 1920) : RC K W rStrI [.int i] (· = .str (Str.ofString (toString i))) := fun D H vs o hv Q q => by
  cases hv with
  | cons hx hn =>
    cases hn
    cases hx
    exact ⟨i, rfl, h, q _ D H _ (.refl o) (.str _) rfl⟩
def rIntS : List V → Hp → VK → Prop := fun xs H Q => ∃ (a : Str) (n : Int), xs = [V.str a] ∧ intText? a = some n ∧ a.length ≤ 640 ∧ Q (V.int n) H
theorem rc_intS {a : Str} {n : Int} (h : intText? a = some n) (hz : a.length ≤ 640) : RC K W rIntS [.str a] (· = .int n) := fun D H vs o hv Q q => by
  cases hv with
  | cons hx hn =>
    cases hn
    cases hx
    exact ⟨a, n, rfl, h, hz, q _ D H _ (.refl o) (.int _) rfl⟩
def rInt1 : List V → Hp → VK → Prop := fun xs H Q => (∃ i : Int, xs = [V.int i] ∧ Q (V.int i) H) ∨ ∃ k : Bool, xs = [V.bl k] ∧ Q (V.int (if k = true then 1 else 0)) H
theorem rc_int1 {i : Int} : RC K W rInt1 [.int i] (· = .int i) := fun D H vs o hv Q q => by
  cases hv with
  | cons hx hn =>
    cases hn
    cases hx
    exact Or.inl ⟨i, rfl, q _ D H _ (.refl o) (.int _) rfl⟩
theorem rc_intB {b : Bool} : RC K W rInt1 [.bool b] (· = .int (if b = true then 1 else 0)) := fun D H vs o hv Q q => by
  cases hv with
  | cons hx hn =>
    cases hn
    cases hx
    exact Or.inr ⟨b, rfl, q _ D H _ (.refl o) (.int _) rfl⟩
def rAbs : List V → Hp → VK → Prop := fun xs H Q => ∃ i : Int, xs = [V.int i] ∧ Q (V.int (if i < 0 then -i else i)) H
theorem rc_abs {i : Int} : RC K W rAbs [.int i] (· = .int (if i < 0 then -i else i)) := fun D H vs o hv Q q => by
  cases hv with
  | cons hx hn =>
    cases hn
    cases hx
    exact ⟨i, rfl, q _ D H _ (.refl o) (.int _) rfl⟩
def rLenQ (K : PySem.W.Frag) : List V → Hp → VK → Prop := fun xs H Q => ∃ p ys, xs = [V.ref p] ∧ (SqL K H p ys ∨ SqT K H p ys) ∧ Q (V.int ↑ys.length) H
theorem rc_lenL : RC K W (rLenQ K) [.list ds] (· = .int ds.length) := fun D H vs o hv Q q => by
  cases hv with
  | cons hx hn =>
    cases hn
    cases hx with
    | lst h1 h2 =>
      refine ⟨_, _, rfl, Or.inl (same_l o.sub h1), q _ D H _ (.refl o) (.int _) ?_⟩
      rw [h2.len]
theorem rc_lenT : RC K W (rLenQ K) [.tuple ds] (· = .int ds.length) := fun D H vs o hv Q q => by
  cases hv with
  | cons hx hn =>
    cases hn
    cases hx with
    | tup h1 h2 =>
      refine ⟨_, _, rfl, Or.inr (same_t o.sub h1), q _ D H _ (.refl o) (.int _) ?_⟩
      rw [h2.len]
/-- len of a list that is read -/
theorem ev_lenB {P : List PyData → Prop} (h : EvB K W te ρ P) : EvN K W (tCB (rLenQ K) (tCons te tNil)) ρ (fun d => ∃ ds, P ds ∧ d = .int ds.length) := fun D0 H0 D H σ e Q q =>
  h D0 H0 D H σ e _ fun l xs D1 H1 ds s1 a q1 p1 => ⟨l, xs, rfl, Or.inl a, q _ D1 H1 _ s1 (.int _) ⟨ds, p1, by rw [q1.len]⟩⟩
theorem rc_all {bs : List Bool} : RC K W (rAll K) [.list (bs.map .bool)] (· = .bool (bs.all id)) := fun D H vs o hv Q q => by
  cases hv with
  | cons hx hn =>
    cases hn
    cases hx with
    | lst h1 h2 =>
      have e := h2.isBools bs
      subst e
      exact ⟨_, bs, rfl, same_l o.sub h1, q _ D H _ (.refl o) (.bl _) rfl⟩
def rInS (neg : Bool) : R2 := fun x y H Q => ∃ (c : Nat) (z : Str), x = V.str ⟨#[c]⟩ ∧ y = V.str z ∧ Q (V.bl (if neg = true then !decide (c ∈ z.cps.toList) else decide (c ∈ z.cps.toList))) H
theorem rd_inS {c : Nat} {z : Str} : RD K W (fun x y H Q => ∃ (c : Nat) (z : Str), x = V.str ⟨#[c]⟩ ∧ y = V.str z ∧ Q (V.bl (decide (c ∈ z.cps.toList))) H) (.str ⟨#[c]⟩) (.str z) (· = .bool (decide (c ∈ z.cps.toList))) := fun D H u v o hu hv Q q => by
  cases hu
  cases hv
  exact ⟨c, z, rfl, rfl, q _ D H _ (.refl o) (.bl _) rfl⟩
theorem rd_ninS {c : Nat} {z : Str} : RD K W (fun x y H Q => ∃ (c : Nat) (z : Str), x = V.str ⟨#[c]⟩ ∧ y = V.str z ∧ Q (V.bl (!decide (c ∈ z.cps.toList))) H) (.str ⟨#[c]⟩) (.str z) (· = .bool (!decide (c ∈ z.cps.toList))) := fun D H u v o hu hv Q q => by
  cases hu
  cases hv
  exact ⟨c, z, rfl, rfl, q _ D H _ (.refl o) (.bl _) rfl⟩

/-! == on data -/
section
open SeqAt
theorem sh_none : SeqAt.shaped .none = true := by simp [SeqAt.shaped, PyData.canLay0, PyData.depth]
theorem sh_bool (b : Bool) : SeqAt.shaped (.bool b) = true := by simp [SeqAt.shaped, PyData.canLay0, PyData.depth]
theorem sh_int (i : Int) : SeqAt.shaped (.int i) = true := by simp [SeqAt.shaped, PyData.canLay0, PyData.depth]
def flatD : PyData → Bool
  | .none | .bool _ | .int _ => true
  | _ => false
theorem can_flat : ∀ xs : List PyData, xs.all flatD = true → PyData.canLayAll0 xs = true ∧ PyData.depthAll xs ≤ 1
  | [], _ => by simp [PyData.canLayAll0, PyData.depthAll]
  | x :: xs, h => by
    have h2 : flatD x = true ∧ xs.all flatD = true := by simpa using h
    obtain ⟨h3, h4⟩ := can_flat xs h2.2
    have h5 : x.canLay0 = true ∧ x.depth ≤ 1 := by
      cases x <;> simp [PyData.canLay0, PyData.depth, flatD] at h2 ⊢
    simp only [PyData.canLayAll0, PyData.depthAll, h5.1, h3, Bool.and_self, true_and]
    omega
theorem sh_flat {xs : List PyData} (h : xs.all flatD = true) : SeqAt.shaped (.list xs) = true ∧ SeqAt.shaped (.tuple xs) = true := by
  obtain ⟨h1, h2⟩ := can_flat xs h
  have a1 : (PyData.list xs).canLay0 = true := by simp only [PyData.canLay0, h1]
  have a2 : (PyData.tuple xs).canLay0 = true := by simp only [PyData.canLay0, h1]
  have b1 : (PyData.list xs).depth ≤ 64 := by
    simp only [PyData.depth]
    omega
  have b2 : (PyData.tuple xs).depth ≤ 64 := by
    simp only [PyData.depth]
    omega
  unfold SeqAt.shaped
  exact ⟨by rw [a1, decide_eq_true b1, Bool.and_self], by rw [a2, decide_eq_true b2, Bool.and_self]⟩
theorem sh_ints (ns : List Int) : SeqAt.shaped (.list (ns.map .int)) = true := (sh_flat (by simp [flatD])).1
theorem sh_nil : SeqAt.shaped (.list []) = true := sh_ints []
end
theorem rd_eqS {a b : Str} : RD K W rEq (.str a) (.str b) (· = .bool (decide (a = b))) := fun D H u v o hu hv Q q => by
  cases hu
  cases hv
  refine ⟨rfl, q _ D H _ (.refl o) (.bl _) ?_⟩
  congr 1
  exact decide_eq_decide.mpr ⟨fun e => by injection e, fun e => by rw [e]⟩
theorem rd_neS {a b : Str} : RD K W rNe (.str a) (.str b) (· = .bool (!decide (a = b))) := fun D H u v o hu hv Q q => by
  cases hu
  cases hv
  refine ⟨rfl, q _ D H _ (.refl o) (.bl _) ?_⟩
  congr 2
  exact decide_eq_decide.mpr ⟨fun e => by injection e, fun e => by rw [e]⟩
theorem rd_eqI {a b : Int} : RD K W rEq (.int a) (.int b) (· = .bool (decide (a = b))) := fun D H u v o hu hv Q q => by
  cases hu
  cases hv
  refine ⟨rfl, q _ D H _ (.refl o) (.bl _) ?_⟩
  congr 1
  exact decide_eq_decide.mpr ⟨fun e => by injection e, fun e => by rw [e]⟩
theorem rd_neI {a b : Int} : RD K W rNe (.int a) (.int b) (· = .bool (!decide (a = b))) := fun D H u v o hu hv Q q => by
  cases hu
  cases hv
  refine ⟨rfl, q _ D H _ (.refl o) (.bl _) ?_⟩
  congr 2
  exact decide_eq_decide.mpr ⟨fun e => by injection e, fun e => by rw [e]⟩
theorem eqv_nil (xs : List PyData) : PyData.eqv (.list xs) (.list []) = xs.isEmpty := by
  cases xs <;> simp [PyData.eqv, PyData.eqvAll]

/-! places -/
theorem DqA.atI {D : Hp} {vs : List V} {ds : List PyData} {i : Int} {d : PyData} (h : DqA K D vs ds) (e : L2.atI ds i = some d) : ∃ v, L2.atI vs i = some v ∧ Dq K D v d := by
  unfold L2.atI at e ⊢
  rw [h.len]
  cases z : ixN ds.length i with
  | none =>
    rw [z] at e
    cases e
  | some j =>
    rw [z] at e
    exact h.at e
theorem rd_ixL {i : Int} (h : atI ds i = some d) : RD K W (rIxL K) (.list ds) (.int i) (· = d) := fun D H u v o hu hv Q q => by
  cases hv
  cases hu with
  | lst h1 h2 =>
    obtain ⟨v, e1, e2⟩ := h2.atI h
    exact ⟨_, _, i, v, rfl, rfl, same_l o.sub h1, e1, q v D H d (.refl o) e2 rfl⟩
theorem rd_ixT {i : Int} (h : atI ds i = some d) : RD K W (rIxT K) (.tuple ds) (.int i) (· = d) := fun D H u v o hu hv Q q => by
  cases hv
  cases hu with
  | tup h1 h2 =>
    obtain ⟨v, e1, e2⟩ := h2.atI h
    exact ⟨_, _, i, v, rfl, rfl, same_t o.sub h1, e1, q v D H d (.refl o) e2 rfl⟩
theorem rd_ixS {z : Str} {i : Int} {c : Nat} (hz : z.length ≤ sizeLine) (h : atI z.cps.toList i = some c) : RD K W rIxS (.str z) (.int i) (· = .str ⟨#[c]⟩) := fun D H u v o hu hv Q q => by
  cases hv
  cases hu
  exact ⟨z, i, c, rfl, rfl, hz, h, q _ D H _ (.refl o) (.str _) rfl⟩
theorem ixN_of {n k : Nat} (h : k < n) : ixN n (k : Int) = some k := by
  unfold ixN
  rw [if_pos (by omega), if_pos (by omega)]
  simp
theorem atI_of {α : Type} {xs : List α} {k : Nat} {x : α} (h : xs[k]? = some x) : atI xs (k : Int) = some x := by
  unfold atI
  rw [ixN_of (List.getElem?_eq_some_iff.mp h).1]
  exact h

/-! parts of texts -/
def EvO (K : PySem.W.Frag) (W : Fx) (to : TO) (ρ : List Sk) : Prop := ∀ D0 H0 D H σ, Env K W D0 H0 D H σ ρ → ∀ Q : Option Int → Hp → Prop,
  (∀ i D' H', Step W D H D' H' → Q i H') → to σ H Q
theorem eo_no : EvO K W tNoPart ρ := fun D0 H0 D H σ e Q q => q none D H (.refl e.ok)
theorem eo_some {P : PyData → Prop} (h : EvN K W te ρ P) (hi : ∀ d, P d → ∃ i, d = .int i) : EvO K W (tPart te) ρ := fun D0 H0 D H σ e Q q =>
  h D0 H0 D H σ e _ fun v D1 H1 d s1 q1 p1 => by
    obtain ⟨i, e1⟩ := hi d p1
    subst e1
    cases q1
    exact ⟨i, rfl, q (some i) D1 H1 s1⟩
/-- a text of at most n signs -/
def isT (n : Nat) (d : PyData) : Prop := ∃ z : Str, d = .str z ∧ z.length ≤ n
/-- an int from lo, below hi -/
def isI (lo hi : Int) (d : PyData) : Prop := ∃ i : Int, d = .int i ∧ lo ≤ i ∧ i < hi
theorem cutS_le (z : Str) (lo hi : Option Int) : (cutS z lo hi).length ≤ z.length := by
  unfold cutS Str.length
  simp only [List.size_toArray, List.length_take, List.length_drop, Array.length_toList]
  omega
theorem ev_slS {n : Nat} {tl th : TO} (h : EvN K W te ρ (isT n)) (hl : EvO K W tl ρ) (hh : EvO K W th ρ) (hn : n ≤ sizeLine) : EvN K W (L2.tSl rSlS te tl th) ρ (isT n) := fun D0 H0 D H σ e Q q =>
  h D0 H0 D H σ e _ fun v D1 H1 d s1 q1 p1 => hl D0 H0 D1 H1 σ (e.step s1) _ fun lo D2 H2 s2 => hh D0 H0 D2 H2 σ ((e.step s1).step s2) _ fun hi D3 H3 s3 => by
    obtain ⟨z, e1, hz⟩ := p1
    subst e1
    cases q1
    exact ⟨z, rfl, Nat.le_trans hz hn, q _ D3 H3 _ ((s1.trans e.ok s2).trans e.ok s3) (.str _) ⟨_, rfl, Nat.le_trans (cutS_le z lo hi) hz⟩⟩
theorem ev_addS {m n : Nat} (ha : EvN K W ta ρ (isT m)) (hb : EvN K W tb ρ (isT n)) (h : m + n ≤ sizeLine) : EvN K W (tOp rAddS ta tb) ρ (isT (m + n)) :=
  ev_op ha hb fun d1 d2 ⟨x, e1, h1⟩ ⟨y, e2, h2⟩ => by
    subst e1
    subst e2
    intro D H u v o hu hv Q q
    refine rd_addS (by omega) D H u v o hu hv Q fun w D' H' d s r e => q w D' H' d s r ⟨_, e, ?_⟩
    rw [PySem.Str.length_append]
    omega
theorem ev_isT {n : Nat} {z : Str} (h : EvD K W te ρ (.str z)) (hz : z.length ≤ n) : EvN K W te ρ (isT n) := h.imp fun d e => ⟨z, e, hz⟩
theorem isT_le {m n : Nat} (h : m ≤ n) {d : PyData} (p : isT m d) : isT n d := by
  obtain ⟨z, e, hz⟩ := p
  exact ⟨z, e, Nat.le_trans hz h⟩

/-! lists of items of one kind -/
def Alls (P : PyData → Prop) (n : Nat) (ds : List PyData) : Prop := ds.length = n ∧ ∀ d ∈ ds, P d
theorem ea_nilA {P : PyData → Prop} : EvA K W tNil ρ (Alls P 0) := ea_nil.imp fun ds e => by
  subst e
  exact ⟨rfl, fun d h => nomatch h⟩
theorem ea_consA {P : PyData → Prop} {n : Nat} {tr : TA} (h : EvN K W te ρ P) (hr : EvA K W tr ρ (Alls P n)) : EvA K W (tCons te tr) ρ (Alls P (n + 1)) := (ea_cons h hr).imp fun ds ⟨d, r, e, p, q, qs⟩ => by
  subst e
  refine ⟨by rw [List.length_cons, q], fun x hx => ?_⟩
  rcases List.mem_cons.mp hx with rfl | hx
  · exact p
  · exact qs x hx
theorem ev_ixL {P1 P2 : PyData → Prop} (ha : EvN K W ta ρ P1) (hb : EvN K W tb ρ P2) (hr : ∀ d1 d2, P1 d1 → P2 d2 → ∃ ds i d, d1 = .list ds ∧ d2 = .int i ∧ atI ds i = some d ∧ P d) : EvN K W (tOp (rIxL K) ta tb) ρ P :=
  ev_op ha hb fun d1 d2 p1 p2 => by
    obtain ⟨ds, i, d, e1, e2, e3, p3⟩ := hr d1 d2 p1 p2
    subst e1
    subst e2
    intro D H u v o hu hv Q q
    exact rd_ixL e3 D H u v o hu hv Q fun w D' H' d' s r e => q w D' H' d' s r (by rw [e]; exact p3)
theorem Alls.pick {P : PyData → Prop} {n : Nat} {ds : List PyData} (h : Alls P n ds) {i : Int} (h0 : 0 ≤ i) (h1 : i < n) : ∃ d, atI ds i = some d ∧ P d := by
  obtain ⟨k, rfl⟩ := Int.eq_ofNat_of_zero_le h0
  have hk : k < ds.length := by
    rw [h.1]
    omega
  exact ⟨ds[k], atI_of (List.getElem?_eq_getElem hk), h.2 _ (List.getElem_mem hk)⟩

/-! lists that stand tracked -/
def EvL (K : PySem.W.Frag) (W : Fx) (te : TE) (ρ : List Sk) (P : List PyData → Prop) : Prop := ∀ D0 H0 D H σ, Env K W D0 H0 D H σ ρ → ∀ Q : VK,
  (∀ l xs D' H' ds, Step W D H D' H' → ¬ W.adr l → H' l = some (.lst xs) → DqA K D' xs ds → P ds → Q (.ref l) H') → te σ H Q
theorem EvF.evl {P : List PyData → Prop} (h : EvF K W te ρ P) : EvL K W te ρ P := fun D0 H0 D H σ e Q q =>
  h D0 H0 D H σ e _ fun l xs D1 H1 ds s1 a b c q1 p1 => q l xs D1 H1 ds s1 (fun hw => W.has H l e.ok.inv hw a) c q1 p1
theorem evl_own {i : Nat} (h : ρ[i]? = some (.own ds)) : EvL K W (tVar i) ρ (· = ds) := fun D0 H0 D H σ e Q q => by
  obtain ⟨o, h1, l, xs, h2, h3, h4, h5, h6, h7⟩ := e.slot i _ h
  subst h2
  exact ⟨_, h1, q l xs D H ds (.refl e.ok) h5 h6 h7 rfl⟩
theorem evf_cat {PA PB : List PyData → Prop} (ha : EvL K W ta ρ PA) (hb : EvL K W tb ρ PB) (hl : ∀ a b, PA a → PB b → a.length + b.length ≤ sizeLine) : EvF K W (tOp rCat ta tb) ρ (fun ds => ∃ a b, PA a ∧ PB b ∧ ds = a ++ b) := fun D0 H0 D H σ e Q q =>
  ha D0 H0 D H σ e _ fun l xs D1 H1 ds s1 w1 c1 q1 p1 => hb D0 H0 D1 H1 σ (e.step s1) _ fun m ys D2 H2 es s2 w2 c2 q2 p2 => by
    have o1 := s1.ok e.ok
    have o2 := s2.ok o1
    have s12 := s1.trans e.ok s2
    refine ⟨l, m, xs, ys, rfl, rfl, s2.off l _ w1 c1, c2, by rw [q1.len, q2.len]; exact hl _ _ p1 p2, fun p hp => ?_⟩
    have hH : H p = none := by
      cases z : H p with
      | none => rfl
      | some u =>
        by_cases hw : W.adr p
        · exact (W.has H2 p s12.inv hw hp).elim
        · rw [s12.off p u hw z] at hp
          cases hp
    exact q p _ D2 _ _ (s12.trans e.ok (.keptH o2 (same_new hp))) hH (o2.sub.free hp) upd_same ((q1.up s2.gro).app q2) ⟨ds, es, p1, p2, rfl⟩
/-- a new list of anything -/
theorem evf_new {xs : Hp → VK → Prop} {t : TE} {vs : List V} (ht : ∀ σ H Q, (∀ l, H l = none → Q (.ref l) (upd H l (.lst vs))) → t σ H Q) (hd : ∀ D, DqA K D vs ds) : EvF K W t ρ (· = ds) := fun D0 H0 D H σ e Q q => by
  refine ht σ H Q fun l hl => ?_
  exact q l vs D _ ds (.keptH e.ok (same_new hl)) hl (e.ok.sub.free hl) upd_same (hd D) rfl
def rListS : List V → Hp → VK → Prop := fun xs H Q => ∃ z : Str, xs = [V.str z] ∧ z.length ≤ sizeLine ∧ ∀ l, H l = none → Q (V.ref l) (upd H l (.lst (z.cps.toList.map fun c => V.str ⟨#[c]⟩)))
theorem DqA.signs {D : Hp} : ∀ cs : List Nat, DqA K D (cs.map fun c => V.str ⟨#[c]⟩) (cs.map fun c => PyData.str ⟨#[c]⟩)
  | [] => .nil
  | c :: cs => .cons (.str _) (DqA.signs cs)
theorem evf_listS {z : Str} (h : EvD K W te ρ (.str z)) (hz : z.length ≤ sizeLine) : EvF K W (tCB rListS (tCons te tNil)) ρ (· = z.cps.toList.map fun c => PyData.str ⟨#[c]⟩) := fun D0 H0 D H σ e Q q =>
  h D0 H0 D H σ e _ fun v D1 H1 d s1 q1 p1 => by
    subst p1
    cases q1
    refine ⟨z, rfl, hz, fun l hl => ?_⟩
    have o1 := s1.ok e.ok
    have hH : H l = none := by
      cases z : H l with
      | none => rfl
      | some u =>
        by_cases hw : W.adr l
        · exact (W.has H1 l s1.inv hw hl).elim
        · rw [s1.off l u hw z] at hl
          cases hl
    exact q l _ D1 _ _ (s1.trans e.ok (.keptH o1 (same_new hl))) hH (o1.sub.free hl) upd_same (DqA.signs _) rfl
theorem DqA.rgC {D : Hp} {a c : Int} (n : Nat) : DqA K D (rgC a c n) ((List.range n).map fun i => PyData.int (a + ((i : Nat) : Int) * c)) := by
  have e : ∀ ks : List Nat, DqA K D (ks.map fun i => V.int (a + ((i : Nat) : Int) * c)) (ks.map fun i => PyData.int (a + ((i : Nat) : Int) * c)) := fun ks => by
    induction ks with
    | nil => exact .nil
    | cons k ks ih => exact .cons (.int _) ih
  exact e _
theorem evf_rg3 {ta : TA} {PA : List PyData → Prop} {P : List PyData → Prop} (h : EvA K W ta ρ PA) (hp : ∀ ds, PA ds → ∃ (i j c : Int) (n : Nat), ds = [.int i, .int j, .int c] ∧ RgC i j c n ∧ n ≤ 2 ^ 24 ∧ P ((List.range n).map fun k => PyData.int (i + ((k : Nat) : Int) * c))) : EvF K W (tLstRg3 ta) ρ P := fun D0 H0 D H σ e Q q =>
  h D0 H0 D H σ e _ fun vs D1 H1 ds s1 q1 p1 => by
    obtain ⟨i, j, c, n, e1, h1, h2, h3⟩ := hp ds p1
    subst e1
    have ev : vs = [.int i, .int j, .int c] := by
      cases q1 with
      | cons a1 q1 =>
        cases a1
        cases q1 with
        | cons a2 q1 =>
          cases a2
          cases q1 with
          | cons a3 q1 =>
            cases a3
            cases q1
            rfl
    refine ⟨i, j, c, n, ev, h1, h2, fun l hl => ?_⟩
    have o1 := s1.ok e.ok
    have hH : H l = none := by
      cases z : H l with
      | none => rfl
      | some u =>
        by_cases hw : W.adr l
        · exact (W.has H1 l s1.inv hw hl).elim
        · rw [s1.off l u hw z] at hl
          cases hl
    exact q l _ D1 _ _ (s1.trans e.ok (.keptH o1 (same_new hl))) hH (o1.sub.free hl) upd_same (DqA.rgC n) h3
theorem ev_dnew : EvD K W tDNewK ρ (.dict []) := fun D0 H0 D H σ e Q q => fun p hp =>
  q (.ref p) _ _ _ (.made e.ok hp) (.dic (ks := []) (xs := []) (ds := []) (Or.inl upd_same) rfl .nil) rfl

/-! numbers -/
theorem rd_mulL {i j : Int} (h : -(2 ^ 64) < i ∧ i < 2 ^ 64) : RD K W (rI CMul fun i j => .int (i * j)) (.int i) (.int j) (· = .int (i * j)) := rd_I (Or.inl h) fun _ => .int _
theorem rd_mulR {i j : Int} (h : -(2 ^ 64) < j ∧ j < 2 ^ 64) : RD K W (rI CMul fun i j => .int (i * j)) (.int i) (.int j) (· = .int (i * j)) := rd_I (Or.inr h) fun _ => .int _
theorem et_chain {r r' : R2} {b c : Bool} {d1 d2 d3 : PyData} (ha : EvD K W ta ρ d1) (hb : EvD K W tb ρ d2) (hc : EvD K W tc ρ d3) (h1 : RD K W r d1 d2 (· = .bool b)) (h2 : ∀ d, d = d2 → RD K W r' d d3 (· = .bool c)) :
    EvT K W (tTest (tChain r r' ta tb tc)) ρ (· = (b && c)) := fun D0 H0 D H σ e Q q =>
  ha D0 H0 D H σ e _ fun x D1 H1 e1 s1 q1 p1 => hb D0 H0 D1 H1 σ (e.step s1) _ fun y D2 H2 e2 s2 q2 p2 => by
    subst p1
    subst p2
    have s12 := s1.trans e.ok s2
    refine h1 D2 H2 x y (s12.ok e.ok) (q1.up s2.gro) q2 _ fun z D3 H3 d s3 q3 p3 => ?_
    subst p3
    cases q3
    have s13 := s12.trans e.ok s3
    refine ⟨b, rfl, ?_⟩
    cases b with
    | false => exact iteF ⟨false, rfl, q false D3 H3 s13 rfl⟩
    | true =>
      refine iteT (hc D0 H0 D3 H3 σ (e.step s13) _ fun u D4 H4 d4 s4 q4 p4 => ?_)
      subst p4
      have s14 := s13.trans e.ok s4
      refine h2 e2 rfl D4 H4 y u (s14.ok e.ok) ((q2.up s3.gro).up s4.gro) q4 _ fun z D5 H5 d s5 q5 p5 => ?_
      subst p5
      cases q5
      exact ⟨c, rfl, q c D5 H5 (s14.trans e.ok s5) (Bool.true_and c).symm⟩
theorem ev_divmod {i j : Int} {ta : TA} (h : EvA K W ta ρ (· = [.int i, .int j])) (hd : CDiv i j) : EvD K W (tCB (fun xs H Q => ∃ i j, xs = [V.int i, V.int j] ∧ CDiv i j ∧ ∀ (p : Addr), H p = none → Q (V.ref p) (upd H p (.tup [V.int (i / j), V.int (i % j)]))) ta) ρ (.tuple [.int (i / j), .int (i % j)]) := fun D0 H0 D H σ e Q q =>
  h D0 H0 D H σ e _ fun vs D1 H1 ds s1 q1 p1 => by
    subst p1
    cases q1 with
    | cons a1 q1 =>
      cases a1
      cases q1 with
      | cons a2 q1 =>
        cases a2
        cases q1
        refine ⟨i, j, rfl, hd, fun p hp => ?_⟩
        have o1 := s1.ok e.ok
        exact q (.ref p) _ _ _ (s1.trans e.ok (.made o1 hp)) (.tup (Or.inl (Or.inl upd_same)) (.cons (.int _) (.cons (.int _) .nil))) rfl
/-! texts -/
theorem ev_partition {x y : Str} (ha : EvD K W ta ρ (.str x)) (hb : EvD K W tb ρ (.str y)) (hy : (y.length == 0) = false) (hx : x.length ≤ sizeLine) :
    EvD K W (tM1 (fun x xs H Q => ∃ a b, x = V.str a ∧ xs = [V.str b] ∧ (b.length == 0) = false ∧ a.length ≤ sizeLine ∧ ∀ (p : Addr), H p = none → Q (V.ref p) (upd H p (.tup [V.str (Txt.partition a b).fst, V.str (Txt.partition a b).snd.fst, V.str (Txt.partition a b).snd.snd]))) ta tb) ρ
      (.tuple [.str (Txt.partition x y).1, .str (Txt.partition x y).2.1, .str (Txt.partition x y).2.2]) := fun D0 H0 D H σ e Q q =>
  ha D0 H0 D H σ e _ fun v D1 H1 d s1 q1 p1 => by
    subst p1
    cases q1
    refine ⟨⟨x, rfl⟩, hb D0 H0 D1 H1 σ (e.step s1) _ fun u D2 H2 d2 s2 q2 p2 => ?_⟩
    subst p2
    cases q2
    refine ⟨x, y, rfl, rfl, hy, hx, fun p hp => ?_⟩
    have s12 := s1.trans e.ok s2
    exact q (.ref p) _ _ _ (s12.trans e.ok (.made (s12.ok e.ok) hp)) (.tup (Or.inl (Or.inl upd_same)) (.cons (.str _) (.cons (.str _) (.cons (.str _) .nil)))) rfl
theorem ev_split {x y : Str} (ha : EvD K W ta ρ (.str x)) (hb : EvD K W tb ρ (.str y)) (hy : (y.length == 0) = false) (hx : x.length + 2 ≤ sizeLine) :
    EvF K W (tM1 (fun x xs H Q => ∃ a b, x = V.str a ∧ xs = [V.str b] ∧ (b.length == 0) = false ∧ a.length + 2 ≤ sizeLine ∧ rNewStrs (Txt.split a b) H Q) ta tb) ρ (· = (Txt.split x y).map PyData.str) := fun D0 H0 D H σ e Q q =>
  ha D0 H0 D H σ e _ fun v D1 H1 d s1 q1 p1 => by
    subst p1
    cases q1
    refine ⟨⟨x, rfl⟩, hb D0 H0 D1 H1 σ (e.step s1) _ fun u D2 H2 d2 s2 q2 p2 => ?_⟩
    subst p2
    cases q2
    refine ⟨x, y, rfl, rfl, hy, hx, fun p hp => ?_⟩
    have s12 := s1.trans e.ok s2
    have o2 := s12.ok e.ok
    have hH : H p = none := by
      cases z : H p with
      | none => rfl
      | some u =>
        by_cases hw : W.adr p
        · exact (W.has H2 p s12.inv hw hp).elim
        · rw [s12.off p u hw z] at hp
          cases hp
    exact q p _ D2 _ _ (s12.trans e.ok (.keptH o2 (same_new hp))) hH (o2.sub.free hp) upd_same (DqA.strs _) rfl
theorem ev_repS {x : Str} {n : Int} (ha : EvD K W ta ρ (.str x)) (hb : EvD K W tb ρ (.int n)) (h1 : 2 ≤ n) (h2 : n ≤ 100000) (h3 : 1 ≤ x.length) (h4 : x.length ≤ 100) (h5 : (times x n.toNat).length ≤ sizeLine) :
    EvD K W (tOp (fun x y H Q => ∃ (z : Str) (n : Int), x = .str z ∧ y = .int n ∧ 2 ≤ n ∧ n ≤ 100000 ∧ 1 ≤ z.length ∧ z.length ≤ 100 ∧ (times z n.toNat).length ≤ sizeLine ∧ Q (.str (times z n.toNat)) H) ta tb) ρ (.str (times x n.toNat)) :=
  ev_opD ha hb fun D H u v o hu hv Q q => by
    cases hu
    cases hv
    exact ⟨x, n, rfl, rfl, h1, h2, h3, h4, h5, q _ D H _ (.refl o) (.str _) rfl⟩

/-! isinstance -/
def clsD : PyData → String
  | .none => "NoneType"
  | .bool _ => "bool"
  | .int _ => "int"
  | .str _ => "str"
  | .list _ => "list"
  | .tuple _ => "tuple"
  | .dict _ => "dict"
theorem Dq.tyx {H : Hp} : ∀ {d : PyData} {v : V}, Dq K H v d → TyX K H v (.type (clsD d))
  | _, _, .non => .base .non
  | _, _, .bl _ => .base (.bl _)
  | _, _, .int _ => .base (.int _)
  | _, _, .str _ => .base (.str _)
  | _, _, .lst h _ => by
    rcases h with (h | ⟨o, h⟩) | ⟨o, its, n, e, c, _⟩
    · exact .base (.lst h)
    · exact .base (.frz h)
    · exact .kList e c
  | _, _, .tup h _ => by
    rcases h with (h | ⟨o, h⟩) | ⟨o, its, n, e, c, _⟩
    · exact .base (.tup h)
    · exact .fTuple h
    · exact .kTuple e c
  | _, _, .dic h _ _ => by
    rcases h with h | ⟨o, h⟩
    · exact .base (.dK h)
    · exact .fDict h
theorem ev_isi {T : String} {b : Bool} (h : EvD K W te ρ d) (hk : kitB (clsD d) T = some b) : EvD K W (tCB (rIsi K) (tCons te (tCons (tC (.ty T)) tNil))) ρ (.bool b) := fun D0 H0 D H σ e Q q =>
  h D0 H0 D H σ e _ fun v D1 H1 d s1 q1 p1 => by
    subst p1
    exact ⟨v, .ty T, _, .type T, b, rfl, .ty T, (q1.up s1.sub).tyx, kit_ty hk, q _ D1 H1 _ s1 (.bl b) rfl⟩

/-! f-strings -/
def EvJ (K : PySem.W.Frag) (W : Fx) (ts : List TE) (ρ : List Sk) (z : Str) : Prop := ∀ D0 H0 D H σ, Env K W D0 H0 D H σ ρ → ∀ (acc : Str) (Q : Str → Hp → Prop), acc.length + z.length ≤ sizeLine →
  (∀ D' H', Step W D H D' H' → Q (acc ++ z) H') → tJs ts acc σ H Q
theorem ej_nil : EvJ K W [] ρ Str.empty := fun D0 H0 D H σ e acc Q _ q => by
  have := q D H (.refl e.ok)
  rw [Str.append_empty] at this
  exact this
theorem ej_cons {ts : List TE} {x z : Str} (h : EvD K W te ρ (.str x)) (hr : EvJ K W ts ρ z) : EvJ K W (te :: ts) ρ (x ++ z) := fun D0 H0 D H σ e acc Q hz q =>
  h D0 H0 D H σ e _ fun v D1 H1 d s1 q1 p1 => by
    subst p1
    cases q1
    have h1 : (acc ++ x).length = acc.length + x.length := PySem.Str.length_append _ _
    have h2 : (x ++ z).length = x.length + z.length := PySem.Str.length_append _ _
    refine ⟨x, rfl, by omega, hr D0 H0 D1 H1 σ (e.step s1) _ Q (by omega) fun D2 H2 s2 => ?_⟩
    rw [Str.append_assoc]
    exact q D2 H2 (s1.trans e.ok s2)
theorem ev_joined {ts : List TE} {z : Str} (h : EvJ K W ts ρ z) (hz : z.length ≤ sizeLine) : EvD K W (fun σ H Q => tJs ts Str.empty σ H fun out H1 => Q (V.str out) H1) ρ (.str z) := fun D0 H0 D H σ e Q q =>
  h D0 H0 D H σ e Str.empty _ (by have : Str.empty.length = 0 := rfl; omega) fun D1 H1 s1 => by
    have e1 : Str.empty ++ z = z := Str.empty_append z
    rw [e1]
    exact q _ D1 H1 _ s1 (.str z) rfl
theorem ev_fmtI {i : Int} (h : EvD K W te ρ (.int i)) (hz : i.natAbs.log2 < 1920) : EvD K W (tFmt te) ρ (.str (Str.ofString (toString i))) := fun D0 H0 D H σ e Q q =>
  h D0 H0 D H σ e _ fun v D1 H1 d s1 q1 p1 => by
    subst p1
    cases q1
    exact Or.inr ⟨i, rfl, hz, q _ D1 H1 _ s1 (.str _) rfl⟩
theorem ev_f2 {i : Int} (h : EvD K W te ρ (.int i)) (h0 : 0 ≤ i) (h1 : i < 100) : EvD K W (tF2 te) ρ (.str (two i)) := fun D0 H0 D H σ e Q q =>
  h D0 H0 D H σ e _ fun v D1 H1 d s1 q1 p1 => by
    subst p1
    cases q1
    exact ⟨i, rfl, h0, h1, q _ D1 H1 _ s1 (.str _) rfl⟩
end

/-! signs of a text, held against the signs of another -/
section
variable {K : PySem.W.Frag} {W : Fx} {ρ : List Sk} {te : TE} {z F : Str} {i : Nat}
def rIn1 : R2 := fun x y H Q => ∃ (c : Nat) (z : Str), x = V.str ⟨#[c]⟩ ∧ y = V.str z ∧ Q (V.bl (decide (c ∈ z.cps.toList))) H
def rNin1 : R2 := fun x y H Q => ∃ (c : Nat) (z : Str), x = V.str ⟨#[c]⟩ ∧ y = V.str z ∧ Q (V.bl (!decide (c ∈ z.cps.toList))) H
def allF (F : Str) : PyData → Bool
  | .str z => z.cps.toList.all fun c => decide (c ∈ F.cps.toList)
  | _ => false
theorem allF_one {F : Str} {c : Nat} : allF F (.str ⟨#[c]⟩) = decide (c ∈ F.cps.toList) := by simp [allF]
theorem ev_allS (h : EvD K W te ρ (.str z)) (hi : i < ρ.length) (hz : z.length ≤ 100000) :
    EvD K W (tCB (rAll K) (tCons (tLc (iStr te) (gName i) tYes (tOp rIn1 (tVar i) (tC (V.str F))) [i]) tNil)) ρ (.bool (z.cps.toList.all fun c => decide (c ∈ F.cps.toList))) := by
  have hz2 : z.cps.toList.length ≤ 100000 := by
    rw [Array.length_toList]
    exact hz
  have h1 : EvF K W (tLc (iStr te) (gName i) tYes (tOp rIn1 (tVar i) (tC (V.str F))) [i]) ρ (· = (z.cps.toList.map fun c => decide (c ∈ F.cps.toList)).map .bool) := by
    refine (evf_map (ds := z.cps.toList.map fun c => .str ⟨#[c]⟩) (vs := [i]) (fun v hv => by simp at hv; omega) (ei_str h) (by rw [List.length_map]; exact hz2) (fun _ => true) (fun d => .bool (allF F d)) fun d hd => ?_).imp fun ds' e => ?_
    · rw [List.mem_map] at hd
      obtain ⟨c, _, rfl⟩ := hd
      refine ⟨_, [i], fun j hj => hj, eg_name (by rw [wipeR_len]; exact hi), pt_yes, fun _ => ?_⟩
      refine (ev_opD (ev_var (by rw [List.getElem?_set_self (by rw [wipeR_len]; exact hi)])) ev_str rd_inS).imp fun d' e => ?_
      rw [e, allF_one]
    · rw [e, List.filter_eq_self.mpr (fun _ _ => rfl), List.map_map, List.map_map]
      apply List.map_congr_left
      intro c _
      show PyData.bool (allF F _) = PyData.bool _
      rw [allF_one]
  refine (ev_cbD (ea_consD h1.evD ea_nil) rc_all).imp fun d e => ?_
  rw [e, List.all_map]
  rfl
theorem ev_badS (h : EvD K W te ρ (.str z)) (hi : i < ρ.length) (hz : z.length ≤ 100000) :
    EvF K W (tLc (iStr te) (gName i) (tTest (tOp rNin1 (tVar i) (tC (V.str F)))) (tC (V.int 1)) [i]) ρ (· = (z.cps.toList.filter fun c => !decide (c ∈ F.cps.toList)).map fun _ => .int 1) := by
  have hz2 : z.cps.toList.length ≤ 100000 := by
    rw [Array.length_toList]
    exact hz
  refine (evf_map (ds := z.cps.toList.map fun c => .str ⟨#[c]⟩) (vs := [i]) (fun v hv => by simp at hv; omega) (ei_str h) (by rw [List.length_map]; exact hz2) (fun d => !allF F d) (fun d => .int 1) fun d hd => ?_).imp fun ds' e => ?_
  · rw [List.mem_map] at hd
    obtain ⟨c, _, rfl⟩ := hd
    refine ⟨_, [i], fun j hj => hj, eg_name (by rw [wipeR_len]; exact hi), ?_, fun _ => ev_int⟩
    refine (et_testD (ev_opD (ev_var (by rw [List.getElem?_set_self (by rw [wipeR_len]; exact hi)])) ev_str rd_ninS)).imp fun d' e => ?_
    rw [e, allF_one]
  · rw [e, List.filter_map, List.map_map]
    have e2 : ((fun d => !allF F d) ∘ fun c => PyData.str ⟨#[c]⟩) = fun c => !decide (c ∈ F.cps.toList) := by
      funext c
      show (!allF F _) = _
      rw [allF_one]
    rw [e2]
    rfl
end

/-! statements -/
section
variable {K : PySem.W.Frag} {W : Fx} {EX : Hp → Prop} {ρ : List Sk} {P : PyData → Prop} {te : TE} {tr : TS} {O : Out}
theorem st_asgG {g : TG} (h : EvN K W te ρ P) (k : ∀ d, P d → ∃ ρ' js, EvG K W g ρ d ρ' js ∧ StG K W EX tr ρ' O) : StG K W EX (tSeq (tAsg te g) tr) ρ O := fun D0 H0 D H σ Dn e kn kb kc kr kx =>
  h D0 H0 D H σ e _ fun v D1 H1 d s1 q1 p1 => by
    obtain ⟨ρ', js, hg, hk⟩ := k d p1
    refine hg D0 H0 D1 H1 σ (e.step s1) v q1 _ fun σ2 D2 H2 s2 e2 _ _ => ?_
    have g0 : Same D D2 := s1.gro.trans s2.gro
    exact hk D0 H0 D2 H2 σ2 Dn e2 (fun a b c x g2 => kn a b c x (g0.trans g2)) (fun a b c x g2 => kb a b c x (g0.trans g2)) (fun a b c x g2 => kc a b c x (g0.trans g2)) kr kx
theorem st_par {i j : Nat} {ta : TA} {PA : List PyData → Prop} (hi : i < ρ.length) (hj : j < ρ.length) (h : EvA K W ta ρ PA) (k : ∀ ds, PA ds → ∃ d1 d2, ds = [d1, d2] ∧ StG K W EX tr ((ρ.set i (.dat d1)).set j (.dat d2)) O) : StG K W EX (tSeq (tPar i j ta) tr) ρ O := fun D0 H0 D H σ Dn e kn kb kc kr kx =>
  h D0 H0 D H σ e _ fun vs D1 H1 ds s1 q1 p1 => by
    obtain ⟨d1, d2, e1, hk⟩ := k ds p1
    subst e1
    cases q1 with
    | cons a1 q1 =>
      cases q1 with
      | cons a2 q1 =>
        cases q1
        refine ⟨_, _, rfl, ?_⟩
        have e2 := ((e.step s1).set hi a1).set (i := j) (by rw [List.length_set]; exact hj) a2
        exact hk D0 H0 D1 H1 _ Dn e2 (fun a b c x g2 => kn a b c x (s1.gro.trans g2)) (fun a b c x g2 => kb a b c x (s1.gro.trans g2)) (fun a b c x g2 => kc a b c x (s1.gro.trans g2)) kr kx
theorem st_parD {i j : Nat} {ta : TA} {d1 d2 : PyData} (hi : i < ρ.length) (hj : j < ρ.length) (h : EvA K W ta ρ (· = [d1, d2])) (k : StG K W EX tr ((ρ.set i (.dat d1)).set j (.dat d2)) O) : StG K W EX (tSeq (tPar i j ta) tr) ρ O :=
  st_par hi hj h fun ds e => ⟨d1, d2, e, k⟩
/-- a def's own call by keywords alone -/
theorem ev_kwN {Pre : List PyData → Prop} {Post : List PyData → PyData → Prop} {ta : TA} {E : L2.St → XK} {d1 : PyData} (h : EvA K W ta ρ (· = [d1])) (hp : Pre [d1]) (hq : ∀ d, Post [d1] d → P d) :
    EvN K W (tKw 1 (fun {α} => g1) (spN K 1 Pre Post) E ta) ρ P := fun D0 H0 D H σ e Q q =>
  h D0 H0 D H σ e _ fun vs D1 H1 ds s1 q1 p1 => by
    subst p1
    have o1 := s1.ok e.ok
    refine ⟨q1.len, D1, [d1], o1.non, q1, rfl, hp, fun v D' H' d s2 q2 p2 => ?_⟩
    exact q v D' H' d (s1.trans e.ok (.lift o1 s2)) q2 (hq d p2)
/-- a call that does not raise here, of a def that may -/
theorem ev_callRN {cls : Value} {n : Nat} {Pre : List PyData → Prop} {g : List PyData → Option PyData} {ta : TA} {E : XK} {ds : List PyData} {d : PyData} (h : EvA K W ta ρ (· = ds)) (hl : ds.length = n) (hp : Pre ds) (hq : g ds = some d) :
    EvD K W (tCall (spR K cls n Pre g) [] E ta) ρ d := fun D0 H0 D H σ e Q q =>
  h D0 H0 D H σ e _ fun vs D1 H1 ds s1 q1 p1 => by
    subst p1
    have o1 := s1.ok e.ok
    rw [List.append_nil]
    refine ⟨D1, _, o1.non, q1, hl, hp, fun v D' H' d' s2 q2 p2 => ?_, fun D' H' s2 p2 => ?_⟩
    · rw [hq] at p2
      cases p2
      exact q v D' H' d (s1.trans e.ok (.lift o1 s2)) q2 rfl
    · rw [hq] at p2
      cases p2
end
end Dl

/-! ## Numbers and clocks in texts -/
namespace Dl
open PySem PySem.Spec PyProof.Rows L2

def dg (n : Nat) : List Nat := if n < 10 then [48 + n] else [48 + n / 10, 48 + n % 10]
def ofL (cs : List Nat) : Str := ⟨cs.toArray⟩
theorem ofL_app (a b : List Nat) : ofL a ++ ofL b = ofL (a ++ b) := by
  unfold ofL
  exact Str.ext' (by rw [Str.cps_append]; simp)
theorem ofL_tl (z : Str) : ofL z.cps.toList = z := by
  unfold ofL
  exact Str.ext' (by simp)
theorem tl_ofL (cs : List Nat) : (ofL cs).cps.toList = cs := by
  unfold ofL
  simp
theorem len_ofL (cs : List Nat) : (ofL cs).length = cs.length := by
  unfold ofL Str.length
  simp
theorem ofL_inj {a b : List Nat} (h : ofL a = ofL b) : a = b := by
  have := congrArg (fun z : Str => z.cps.toList) h
  simpa [ofL] using this
theorem str_dg : ∀ n : Nat, n < 100 → Str.ofString (toString (n : Int)) = ofL (dg n) := by decide +kernel
theorem int_dg1 : ∀ n : Nat, n < 10 → intText? (ofL [48 + n]) = some (n : Int) := by decide +kernel
theorem int_dg2 : ∀ a : Nat, a < 10 → ∀ b : Nat, b < 10 → intText? (ofL [48 + a, 48 + b]) = some ((10 * a + b : Nat) : Int) := by decide +kernel
def figs : Str := Str.ofString "0123456789"
theorem figs_tl : figs.cps.toList = [48, 49, 50, 51, 52, 53, 54, 55, 56, 57] := by decide +kernel
def isd (c : Nat) : Bool := decide (c ∈ figs.cps.toList)
theorem isd_iff {c : Nat} : isd c = true ↔ 48 ≤ c ∧ c ≤ 57 := by
  unfold isd
  rw [figs_tl]
  simp
  omega
theorem isd_of {c : Nat} (h : isd c = true) : ∃ n, n < 10 ∧ c = 48 + n := ⟨c - 48, by have := isd_iff.mp h; omega, by have := isd_iff.mp h; omega⟩

/-- what read_number reads in a text -/
def rnum (cs : List Nat) (most : Nat) : Option Nat :=
  match cs with
  | [a] => if isd a = true ∧ a - 48 ≤ most then some (a - 48) else none
  | [a, b] => if isd a = true ∧ isd b = true ∧ a ≠ 48 ∧ 10 * (a - 48) + (b - 48) ≤ most then some (10 * (a - 48) + (b - 48)) else none
  | _ => none
theorem rnum_le {cs : List Nat} {most n : Nat} (h : rnum cs most = some n) : n ≤ most := by
  unfold rnum at h
  split at h
  · split at h
    · cases h
      omega
    · cases h
  · split at h
    · cases h
      omega
    · cases h
  · cases h
/-- what int makes of figures -/
theorem int_figs {cs : List Nat} (h : cs.all isd = true) (h1 : 1 ≤ cs.length) (h2 : cs.length ≤ 2) : ∃ n : Nat, intText? (ofL cs) = some (n : Int) ∧ n < 100 ∧
    ((∀ most : Nat, n ≤ most → ofL (dg n) = ofL cs → rnum cs most = some n) ∧ (∀ most : Nat, (most < n ∨ ofL (dg n) ≠ ofL cs) → rnum cs most = none)) := by
  match cs, h1, h2 with
  | [a], _, _ =>
    have ha : isd a = true := by simpa using h
    obtain ⟨n, hn, e⟩ := isd_of ha
    subst e
    refine ⟨n, int_dg1 n hn, by omega, fun most hm _ => ?_, fun most hm => ?_⟩
    · unfold rnum
      simp only
      rw [if_pos ⟨ha, by omega⟩]
      congr 1
      omega
    · unfold rnum
      simp only
      rw [if_neg]
      rintro ⟨_, q⟩
      rcases hm with hm | hm
      · omega
      · apply hm
        unfold dg
        rw [if_pos hn]
  | [a, b], _, _ =>
    have hab : isd a = true ∧ isd b = true := by simpa using h
    obtain ⟨n, hn, e⟩ := isd_of hab.1
    obtain ⟨m, hm, e'⟩ := isd_of hab.2
    subst e
    subst e'
    refine ⟨10 * n + m, int_dg2 n hn m hm, by omega, fun most hle hd => ?_, fun most hh => ?_⟩
    · unfold rnum
      simp only
      have h0 : n ≠ 0 := by
        intro z
        subst z
        have := ofL_inj hd
        unfold dg at this
        rw [if_pos (by omega)] at this
        simp at this
      rw [if_pos ⟨hab.1, hab.2, by omega, by omega⟩]
      congr 1
      omega
    · unfold rnum
      simp only
      rw [if_neg]
      rintro ⟨_, _, q1, q2⟩
      rcases hh with hh | hh
      · omega
      · apply hh
        unfold dg
        rw [if_neg (by omega)]
        have e1 : (10 * n + m) / 10 = n := by omega
        have e2 : (10 * n + m) % 10 = m := by omega
        rw [e1, e2]

/-- a clock's text -/
def clk (m : Nat) : List Nat := dg (m / 60) ++ [58, 48 + m % 60 / 10, 48 + m % 60 % 10]
/-- .. and what is read -/
def rdc (cs : List Nat) : Option Nat :=
  match TL.par [58] [] cs with
  | some (h, [t, o]) => (rnum [t] 5).bind fun t => (rnum [o] 9).bind fun o => (rnum h 47).map fun h => 60 * h + 10 * t + o
  | _ => none
theorem dg_free {n : Nat} : 58 ∉ dg n ∨ 100 ≤ n := by
  by_cases h : n < 100
  · left
    unfold dg
    split
    · simp
      omega
    · simp
      omega
  · right
    omega
theorem rnum_dg : ∀ n : Nat, n < 48 → rnum (dg n) 47 = some n := by decide +kernel
theorem rnum_1 {n most : Nat} (h : n < 10) (hm : n ≤ most) : rnum [48 + n] most = some n := by
  unfold rnum
  simp only
  rw [if_pos ⟨isd_iff.mpr (by omega), by omega⟩]
  congr 1
  omega
theorem rdc_clk {m : Nat} (h : m < 2880) : rdc (clk m) = some m := by
  have hf : 58 ∉ dg (m / 60) := by
    rcases dg_free (n := m / 60) with h1 | h1
    · exact h1
    · omega
  have e : TL.par [58] [] (clk m) = some (dg (m / 60), [48 + m % 60 / 10, 48 + m % 60 % 10]) := by
    have := TL.par_part1 (S := []) (acc := []) (rest := [48 + m % 60 / 10, 48 + m % 60 % 10]) hf
    simpa [clk] using this
  unfold rdc
  rw [e]
  simp only
  rw [rnum_1 (n := m % 60 / 10) (by omega) (by omega), rnum_1 (n := m % 60 % 10) (by omega) (by omega), rnum_dg _ (by omega)]
  simp only [Option.bind_some, Option.map_some, Option.some.injEq]
  omega
theorem rdc_lt {cs : List Nat} {m : Nat} (h : rdc cs = some m) : m < 2880 := by
  unfold rdc at h
  split at h
  · rename_i hh t o _
    cases e1 : rnum [t] 5 with
    | none => rw [e1] at h; cases h
    | some t' =>
      cases e2 : rnum [o] 9 with
      | none => rw [e1, e2] at h; cases h
      | some o' =>
        cases e3 : rnum hh 47 with
        | none => rw [e1, e2, e3] at h; cases h
        | some h' =>
          rw [e1, e2, e3] at h
          simp only [Option.bind_some, Option.map_some, Option.some.injEq] at h
          have := rnum_le e1
          have := rnum_le e2
          have := rnum_le e3
          omega
  · cases h
end Dl
namespace Dl
open PySem PySem.Spec PyProof.Rows L2
theorem first_58 : ∀ cs : List Nat, 58 ∈ cs → ∃ p r, cs = p ++ 58 :: r ∧ 58 ∉ p
  | [], h => nomatch h
  | c :: cs, h => by
    by_cases hc : c = 58
    · subst hc
      exact ⟨[], cs, rfl, fun z => nomatch z⟩
    · have h2 : 58 ∈ cs := by
        rcases List.mem_cons.mp h with e | e
        · exact (hc e.symm).elim
        · exact e
      obtain ⟨p, r, e, hp⟩ := first_58 cs h2
      refine ⟨c :: p, r, by rw [e]; rfl, fun z => ?_⟩
      rcases List.mem_cons.mp z with e | e
      · exact hc e.symm
      · exact hp e
theorem spl_some (cs : List Nat) : ∃ a r, TL.spl [58] 0 [] cs = a :: r := by
  by_cases h : 58 ∈ cs
  · obtain ⟨p, r, e, hp⟩ := first_58 cs h
    have := TL.spl_part1 (S := []) (acc := []) (rest := r) hp
    rw [e]
    exact ⟨_, _, by simpa using this⟩
  · have := TL.spl_last1 (S := []) (acc := []) h
    exact ⟨_, _, this⟩
def col : Str := Str.ofString ":"
theorem col_tl : TL.tl col = [58] := by decide +kernel
theorem rnum_58 {most : Nat} : rnum [58] most = none := by
  unfold rnum
  simp only
  rw [if_neg]
  rintro ⟨h, _⟩
  have := isd_iff.mp h
  omega
theorem split_two (z : Str) : (∃ h r : Str, Txt.split z col = [h, r] ∧ TL.par [58] [] z.cps.toList = some (h.cps.toList, r.cps.toList)) ∨ ((Txt.split z col).length ≠ 2 ∧ rdc z.cps.toList = none) := by
  have key : (Txt.split z col).map TL.tl = TL.spl [58] 0 [] z.cps.toList := by
    have := TL.split_spl z col (by rw [col_tl]; simp) (TL.kind_ok (by decide +kernel))
    rw [col_tl] at this
    exact this
  have klen : (Txt.split z col).length = (TL.spl [58] 0 [] z.cps.toList).length := by
    rw [← key, List.length_map]
  by_cases h : 58 ∈ z.cps.toList
  · obtain ⟨p, r, e, hp⟩ := first_58 _ h
    have e1 : TL.par [58] [] z.cps.toList = some (p, r) := by
      have := TL.par_part1 (S := []) (acc := []) (rest := r) hp
      rw [e]
      simpa using this
    have e2 : TL.spl [58] 0 [] z.cps.toList = p :: TL.spl [58] 0 [] r := by
      have := TL.spl_part1 (S := []) (acc := []) (rest := r) hp
      rw [e]
      simpa using this
    by_cases hr : 58 ∈ r
    · right
      obtain ⟨p2, r2, e3, hp2⟩ := first_58 _ hr
      have e4 : TL.spl [58] 0 [] r = p2 :: TL.spl [58] 0 [] r2 := by
        have := TL.spl_part1 (S := []) (acc := []) (rest := r2) hp2
        rw [e3]
        simpa using this
      obtain ⟨a, b, e5⟩ := spl_some r2
      refine ⟨?_, ?_⟩
      · rw [klen, e2, e4, e5]
        simp only [List.length_cons]
        omega
      · unfold rdc
        rw [e1]
        split
        · rename_i hh t o q
          cases q
          have : t = 58 ∨ o = 58 := by simpa [eq_comm] using hr
          rcases this with rfl | rfl
          · rw [rnum_58]
            rfl
          · rw [rnum_58]
            cases rnum [t] 5 <;> rfl
        · rfl
    · left
      have e4 : TL.spl [58] 0 [] r = [r] := by
        have := TL.spl_last1 (S := []) (acc := []) hr
        simpa using this
      rw [e2, e4] at key
      match hq : Txt.split z col, key with
      | [a, b], key =>
        simp only [List.map_cons, List.map_nil, List.cons.injEq, and_true] at key
        refine ⟨a, b, rfl, ?_⟩
        rw [e1, ← key.1, ← key.2]
      | [], key => simp at key
      | [_], key => simp at key
      | _ :: _ :: _ :: _, key => simp at key
  · right
    refine ⟨?_, ?_⟩
    · have e2 : TL.spl [58] 0 [] z.cps.toList = [z.cps.toList] := by
        have := TL.spl_last1 (S := []) (acc := []) h
        simpa using this
      rw [klen, e2]
      simp
    · unfold rdc
      rw [TL.par_none1 (S := []) h]
end Dl
namespace Dl
open PySem PySem.Spec PyProof.Rows L2
theorem par_len {cs h r : List Nat} (q : TL.par [58] [] cs = some (h, r)) : h.length ≤ cs.length ∧ r.length ≤ cs.length := by
  by_cases hm : 58 ∈ cs
  · obtain ⟨p, r2, e, hp⟩ := first_58 _ hm
    have := TL.par_part1 (S := []) (acc := []) (rest := r2) hp
    rw [e] at q
    have e3 : TL.par [58] [] (p ++ 58 :: r2) = some (p, r2) := by simpa using this
    rw [e3] at q
    cases q
    rw [e]
    simp
    omega
  · rw [TL.par_none1 (S := []) hm] at q
    cases q
theorem rnum_len {cs : List Nat} {m : Nat} (h : ¬ (1 ≤ cs.length ∧ cs.length ≤ 2)) : rnum cs m = none := by
  match cs, h with
  | [], _ => rfl
  | [_], h => simp at h
  | [_, _], h => simp at h
  | _ :: _ :: _ :: _, _ => rfl
theorem rnum_not {cs : List Nat} {m : Nat} (h : cs.all isd = false) : rnum cs m = none := by
  match cs, h with
  | [], _ => rfl
  | [a], h =>
    unfold rnum
    simp only
    rw [if_neg]
    rintro ⟨h1, _⟩
    simp [h1] at h
  | [a, b], h =>
    unfold rnum
    simp only
    rw [if_neg]
    rintro ⟨h1, h2, _⟩
    simp [h1, h2] at h
  | _ :: _ :: _ :: _, _ => rfl
/-- rdc where the text has the parts h, r -/
def rdR (h : List Nat) : List Nat → Option Nat
  | [t, o] => (rnum [t] 5).bind fun t => (rnum [o] 9).bind fun o => (rnum h 47).map fun h => 60 * h + 10 * t + o
  | _ => none
theorem rdc_at {cs h r : List Nat} (q : TL.par [58] [] cs = some (h, r)) : rdc cs = rdR h r := by
  unfold rdc
  rw [q]
  match r with
  | [] => rfl
  | [_] => rfl
  | [_, _] => rfl
  | _ :: _ :: _ :: _ => rfl
theorem rdc_h {cs h r : List Nat} (q : TL.par [58] [] cs = some (h, r)) (hn : rnum h 47 = none) : rdc cs = none := by
  rw [rdc_at q]
  unfold rdR
  split
  · rw [hn]
    rename_i t o
    cases rnum [t] 5 <;> cases rnum [o] 9 <;> rfl
  · rfl
theorem rdc_r {cs h r : List Nat} (q : TL.par [58] [] cs = some (h, r)) (hn : r.length ≠ 2 ∨ r.all isd = false) : rdc cs = none := by
  rw [rdc_at q]
  unfold rdR
  split
  · rename_i t o
    rcases hn with hn | hn
    · exact (hn rfl).elim
    · have : isd t = false ∨ isd o = false := by
        cases h1 : isd t <;> cases h2 : isd o <;> simp_all
      rcases this with h1 | h1
      · have : rnum [t] 5 = none := rnum_not (by simp [h1])
        rw [this]
        rfl
      · have : rnum [o] 9 = none := rnum_not (by simp [h1])
        rw [this]
        cases rnum [t] 5 <;> rfl
  · rfl
end Dl

/-! ## Numbers that are not told, and the well -/
namespace Dl
open PySem PySem.Spec PyProof.Rows L2

def anyI (d : PyData) : Prop := ∃ i : Int, d = .int i
theorem any_of {lo hi : Int} {d : PyData} (h : isI lo hi d) : anyI d := by
  obtain ⟨i, e, _⟩ := h
  exact ⟨i, e⟩
section
variable {K : PySem.W.Frag} {W : Fx} {EX : Hp → Prop} {ρ : List Sk} {P P1 P2 : PyData → Prop} {te ta tb : TE} {d1 d2 : PyData} {tr : TS} {O : Out}
theorem RD.imp {r : R2} (h : RD K W r d1 d2 P1) (f : ∀ d, P1 d → P2 d) : RD K W r d1 d2 P2 := fun D H x y o hx hy Q q =>
  h D H x y o hx hy Q fun v D' H' d s r p => q v D' H' d s r (f d p)
theorem ev_opI {g : Int → Int → Int} (ha : EvN K W ta ρ anyI) (hb : EvN K W tb ρ anyI) : EvN K W (tOp (rI0 fun i j => .int (g i j)) ta tb) ρ anyI :=
  ev_op ha hb fun d1 d2 ⟨i, e1⟩ ⟨j, e2⟩ => by
    subst e1
    subst e2
    exact (rd_I0 fun _ => .int _).imp fun d e => ⟨_, e⟩
theorem ev_opI2 {g : Int → Int → Int} {PI PJ : Int → Prop} (ha : EvN K W ta ρ (fun d => ∃ i, d = .int i ∧ PI i)) (hb : EvN K W tb ρ (fun d => ∃ i, d = .int i ∧ PJ i)) {Pr : Int → Prop} (h : ∀ i j, PI i → PJ j → Pr (g i j)) :
    EvN K W (tOp (rI0 fun i j => .int (g i j)) ta tb) ρ (fun d => ∃ i, d = .int i ∧ Pr i) :=
  ev_op ha hb fun d1 d2 ⟨i, e1, p1⟩ ⟨j, e2, p2⟩ => by
    subst e1
    subst e2
    exact (rd_I0 fun _ => .int _).imp fun d e => ⟨_, e, h i j p1 p2⟩
theorem ev_mulL {c : Int} (hc : -(2 ^ 64) < c ∧ c < 2 ^ 64) (hb : EvN K W tb ρ anyI) : EvN K W (tOp (rI CMul fun i j => .int (i * j)) (tC (.int c)) tb) ρ anyI :=
  ev_op ev_int hb fun d1 d2 e1 ⟨j, e2⟩ => by
    subst e1
    subst e2
    exact (rd_mulL hc).imp fun d e => ⟨_, e⟩
theorem ev_mulI {lo hi : Int} (ha : EvN K W ta ρ (isI lo hi)) (hb : EvN K W tb ρ anyI) (h0 : -(2 ^ 64) < lo) (h1 : hi ≤ 2 ^ 64) : EvN K W (tOp (rI CMul fun i j => .int (i * j)) ta tb) ρ anyI :=
  ev_op ha hb fun d1 d2 ⟨i, e1, q1, q2⟩ ⟨j, e2⟩ => by
    subst e1
    subst e2
    exact (rd_mulL ⟨by omega, by omega⟩).imp fun d e => ⟨_, e⟩
theorem ev_modI {hi : Int} (ha : EvN K W ta ρ anyI) (hb : EvN K W tb ρ (· = .int hi)) (h : 0 < hi) : EvN K W (tOp (rI (fun _ j => j ≠ 0) fun i j => .int (i.fmod j)) ta tb) ρ (isI 0 hi) :=
  ev_op ha hb fun d1 d2 ⟨i, e1⟩ e2 => by
    subst e1
    subst e2
    exact RD.imp (P1 := (· = .int (i.fmod hi))) (rd_I (show hi ≠ 0 by omega) fun _ => .int _) fun d e => ⟨_, e, Int.fmod_nonneg_of_pos i h, Int.fmod_lt_of_pos i h⟩
theorem ev_divI {c : Int} (ha : EvN K W ta ρ anyI) (hb : EvN K W tb ρ (· = .int c)) (h : c ≠ 0 ∧ c.natAbs < 1073741824) : EvN K W (tOp (rI CDivN fun i j => .int (i.fdiv j)) ta tb) ρ anyI :=
  ev_op ha hb fun d1 d2 ⟨i, e1⟩ e2 => by
    subst e1
    subst e2
    exact (rd_I h fun _ => .int _).imp fun d e => ⟨_, e⟩
theorem ev_int1 (h : EvN K W te ρ anyI) : EvN K W (tCB rInt1 (tCons te tNil)) ρ anyI :=
  ev_cb (ea_cons h ea_nil) fun ds ⟨d, r, e, ⟨i, e1⟩, e2⟩ => by
    subst e
    subst e1
    subst e2
    intro D H vs o hv Q q
    exact rc_int1 D H vs o hv Q fun v D' H' d s r p => q v D' H' d s r ⟨i, p⟩
theorem ev_any {i : Int} (h : EvD K W te ρ (.int i)) : EvN K W te ρ anyI := h.imp fun d e => ⟨i, e⟩
theorem ev_isI {i lo hi : Int} (h : EvD K W te ρ (.int i)) (h1 : lo ≤ i) (h2 : i < hi) : EvN K W te ρ (isI lo hi) := h.imp fun d e => ⟨i, e, h1, h2⟩

/-! the well -/
theorem Step.at {W : Fx} {D H H' : Hp} (o : Ok W D H) (h : ∀ p, ¬ W.adr p → H' p = H p) (hi : W.inv H') : Step W D H D H' :=
  ⟨Same.refl D, fun p u e => by
    have : ¬ W.adr p := fun hw => by rw [o.off p hw] at e; cases e
    rw [h p this]
    exact o.sub p u e, fun p u hp e => (h p hp).trans e, fun _ h _ => h, hi⟩
variable {a b : Addr}
theorem ev_w (h : ρ[0]? = some .rt) {k : Int} (hk : k = 1 ∨ k = 2) : EvN K (Wl a b) (tOp (rIxL K) (tVar 0) (tC (.int k))) ρ anyI := fun D0 H0 D H σ e Q q => by
  obtain ⟨o, h1, h2⟩ := e.slot 0 _ h
  have h3 : o = some (.ref a) := h2
  subst h3
  obtain ⟨_, cs, m, n, h4, h5⟩ := e.ok.inv
  rcases hk with rfl | rfl
  · exact ⟨_, h1, a, _, 1, .int m, rfl, rfl, Or.inl (Or.inl h4), rfl, q _ D H _ (.refl e.ok) (.int m) ⟨m, rfl⟩⟩
  · exact ⟨_, h1, a, _, 2, .int n, rfl, rfl, Or.inl (Or.inl h4), rfl, q _ D H _ (.refl e.ok) (.int n) ⟨n, rfl⟩⟩
theorem st_wset (h : ρ[0]? = some .rt) (ht : EvN K (Wl a b) te ρ anyI) (k : StG K (Wl a b) EX tr ρ O) : StG K (Wl a b) EX (tSeq (tAsg te (gSub (tVar 0) (tC (.int 2)) rSetL)) tr) ρ O := fun D0 H0 D H σ Dn e kn kb kc kr kx =>
  ht D0 H0 D H σ e _ fun v D1 H1 d s1 q1 ⟨i, e1⟩ => by
    subst e1
    cases q1
    have e1 := e.step s1
    obtain ⟨o, h1, h2⟩ := e1.slot 0 _ h
    have h3 : o = some (.ref a) := h2
    subst h3
    obtain ⟨hab, cs, m, n, h4, h5⟩ := e1.ok.inv
    refine ⟨_, h1, a, _, 2, 2, rfl, rfl, h4, rfl, ?_⟩
    have s2 : Step (Wl a b) D1 H1 D1 (upd H1 a (.lst ([.ref b, .int m, .int n].set 2 (.int i)))) := .at e1.ok (fun p hp => upd_ne fun z => hp (Or.inl z)) ⟨hab, cs, m, i, upd_same, by rw [upd_ne (Ne.symm hab)]; exact h5⟩
    exact k D0 H0 D1 _ σ Dn (e1.step s2) (fun a b c x g2 => kn a b c x ((s1.gro.trans s2.gro).trans g2)) (fun a b c x g2 => kb a b c x ((s1.gro.trans s2.gro).trans g2)) (fun a b c x g2 => kc a b c x ((s1.gro.trans s2.gro).trans g2)) kr kx
end
end Dl

/-! ## The making of the well, the law's start -/
namespace Dl
open PySem PySem.Spec PyProof.Rows L2

section
variable {K : PySem.W.Frag} {W : Fx} {EX : Hp → Prop} {ρ : List Sk} {P P1 P2 : PyData → Prop} {te ta tb : TE} {ds : List PyData} {tr : TS} {O : Out}
theorem fresh_of {D H D1 H1 : Hp} (o : Ok W D H) (s : Step W D H D1 H1) {p : Addr} (hp : H1 p = none) : H p = none := by
  cases z : H p with
  | none => rfl
  | some u =>
    by_cases hw : W.adr p
    · exact (W.has H1 p s.inv hw hp).elim
    · rw [s.off p u hw z] at hp
      cases hp
theorem evf_slL {tl th : TO} (h : EvD K W te ρ (.list ds)) (hl : EvO K W tl ρ) (hh : EvO K W th ρ) : EvF K W (L2.tSl (rSlL K) te tl th) ρ (fun es => ∃ i j, es = (ds.drop i).take j) := fun D0 H0 D H σ e Q q =>
  h D0 H0 D H σ e _ fun v D1 H1 d s1 q1 p1 => hl D0 H0 D1 H1 σ (e.step s1) _ fun lo D2 H2 s2 => hh D0 H0 D2 H2 σ ((e.step s1).step s2) _ fun hi D3 H3 s3 => by
    subst p1
    cases q1 with
    | lst h1 h2 =>
      have s13 := (s1.trans e.ok s2).trans e.ok s3
      have o3 := s13.ok e.ok
      refine ⟨_, _, rfl, same_l ((s2.gro.trans s3.gro).trans o3.sub) h1, fun p hp => ?_⟩
      exact q p _ D3 _ _ (s13.trans e.ok (.keptH o3 (same_new hp))) (fresh_of e.ok s13 hp) (o3.sub.free hp) upd_same (((h2.up s2.gro).up s3.gro).drop _ |>.take _) ⟨_, _, rfl⟩
theorem ei_listN {P : List PyData → Prop} (h : EvN K W te ρ (fun d => ∃ ds, P ds ∧ d = .list ds)) : EvI K W (iList K te) ρ P := fun D0 H0 D H σ e R k =>
  h D0 H0 D H σ e _ fun v D' H' d s q ⟨ds, p, e1⟩ => by
    subst e1
    cases q with
    | lst h1 h2 => exact ⟨_, rfl, ⟨_, same_l s.sub h1⟩, k _ D' H' _ s (.list h1 h2) p⟩
def anyB (d : PyData) : Prop := ∃ b : Bool, d = .bool b
theorem ev_absI (h : EvN K W te ρ anyI) : EvN K W (tCB rAbs (tCons te tNil)) ρ anyI :=
  ev_cb (ea_cons h ea_nil) fun ds ⟨d, r, e, ⟨i, e1⟩, e2⟩ => by
    subst e
    subst e1
    subst e2
    intro D H vs o hv Q q
    exact rc_abs D H vs o hv Q fun v D' H' d s r p => q v D' H' d s r ⟨_, p⟩
theorem ev_intB (h : EvN K W te ρ anyB) : EvN K W (tCB rInt1 (tCons te tNil)) ρ anyI :=
  ev_cb (ea_cons h ea_nil) fun ds ⟨d, r, e, ⟨i, e1⟩, e2⟩ => by
    subst e
    subst e1
    subst e2
    intro D H vs o hv Q q
    exact rc_intB D H vs o hv Q fun v D' H' d s r p => q v D' H' d s r ⟨_, p⟩
theorem ev_opB {g : Int → Int → Bool} (ha : EvN K W ta ρ anyI) (hb : EvN K W tb ρ anyI) : EvN K W (tOp (rI0 fun i j => .bl (g i j)) ta tb) ρ anyB :=
  ev_op ha hb fun d1 d2 ⟨i, e1⟩ ⟨j, e2⟩ => by
    subst e1
    subst e2
    exact RD.imp (P1 := (· = .bool (g i j))) (rd_I0 fun _ => .bl _) fun d e => ⟨_, e⟩
theorem ev_mulR {c : Int} (ha : EvN K W ta ρ anyI) (hc : -(2 ^ 64) < c ∧ c < 2 ^ 64) : EvN K W (tOp (rI CMul fun i j => .int (i * j)) ta (tC (.int c))) ρ anyI :=
  ev_op ha ev_int fun d1 d2 ⟨i, e1⟩ e2 => by
    subst e1
    subst e2
    exact (rd_mulR hc).imp fun d e => ⟨_, e⟩
theorem ints_of : ∀ ds : List PyData, (∀ d ∈ ds, anyI d) → ∃ ns : List Int, ds = ns.map .int
  | [], _ => ⟨[], rfl⟩
  | d :: ds, h => by
    obtain ⟨i, e⟩ := h d List.mem_cons_self
    obtain ⟨ns, e2⟩ := ints_of ds fun x hx => h x (List.mem_cons_of_mem _ hx)
    exact ⟨i :: ns, by rw [e, e2]; rfl⟩
theorem run2 {S1 S2 R : TS} {D : Ends} {σ : L2.St} {H : Hp} (h : tSeq S1 (tSeq S2 tNext) { D with nx := R D } σ H) : tSeq S1 (tSeq S2 R) D σ H := h
end
/-- what the law's own well gives: two new lists -/
def sp_well (K : PySem.W.Frag) : Sp := fun vs H Q _ => ∃ (s : Addr) (ns : List Int), vs = [.ref s] ∧ SqL K H s (ns.map V.int) ∧ ns.length ≤ 63 ∧ ∀ (H' : Hp) (a b : Addr) (cs : List Int) (m n : Int), Same H H' → H a = none → H b = none → a ≠ b →
  H' a = some (.lst [.ref b, .int m, .int n]) → H' b = some (.lst (cs.map V.int)) → Q (.ref a) H'
/-- the law's own promise -/
def sp_law (K : PySem.W.Frag) : Sp := fun vs H Q _ => ∃ (a : Addr) (ns : List Int), vs = [.ref a] ∧ SqL K H a (ns.map V.int) ∧ ns.length ≤ 63 ∧ ∀ H', Q (.bl true) H'
theorem law_end {K : PySem.W.Frag} {H : Hp} {a : Addr} {ns : List Int} (hl : ns.length ≤ 63) (hO : Only H) (hS : SqL K H a (ns.map V.int)) : sp_law K [.ref a] H (fun v _ => v = .bl true) fun _ _ _ => False :=
  ⟨a, ns, rfl, hS, hl, fun _ => rfl⟩
/-- the heap without the well -/
def wout (H : Hp) (a b : Addr) : Hp := fun p => if p = a ∨ p = b then none else H p
theorem ok_wout {H : Hp} {a b : Addr} {cs : List Int} {m n : Int} (hab : a ≠ b) (ha : H a = some (.lst [.ref b, .int m, .int n])) (hb : H b = some (.lst (cs.map V.int))) : Ok (Wl a b) (wout H a b) H :=
  ⟨fun p u e => by
    unfold wout at e
    split at e
    · cases e
    · exact e, ⟨hab, cs, m, n, ha, hb⟩, fun p hp => if_pos hp⟩
end Dl
namespace Dl
open PySem PySem.Spec PyProof.Rows L2
section
variable {K : PySem.W.Frag} {W : Fx} {EX : Hp → Prop} {ρ : List Sk} {P P1 P2 : PyData → Prop} {te ta tb : TE} {ds : List PyData} {tr : TS} {O : Out}
theorem Alls.le {P Q : PyData → Prop} {n : Nat} {ds : List PyData} (h : Alls P n ds) (f : ∀ d, P d → Q d) : Alls Q n ds := ⟨h.1, fun d hd => f d (h.2 d hd)⟩
theorem Alls.app {P : PyData → Prop} {m n : Nat} {as bs : List PyData} (h : Alls P m as) (h2 : Alls P n bs) : Alls P (m + n) (as ++ bs) :=
  ⟨by rw [List.length_append, h.1, h2.1], fun d hd => (List.mem_append.mp hd).elim (h.2 d) (h2.2 d)⟩
theorem str3 : ∀ n : Nat, n < 1000 → (Str.ofString (toString (n : Int))).length ≤ 3 := by decide +kernel
theorem env_rt {n i : Nat} {D H : Hp} {σ : L2.St} (o : Ok W D H) (hσ : σ.length = n) (hi : σ[i]? = some (some W.root)) : Env K W D H D H σ ((List.replicate n .any).set i .rt) where
  ok0 := o
  st := .refl o
  slot := fun j k h => by
    have hin : i < n := by rw [← hσ]; exact (List.getElem?_eq_some_iff.mp hi).1
    by_cases hj : i = j
    · subst hj
      rw [List.getElem?_set_self (by rw [List.length_replicate]; exact hin)] at h
      cases h
      exact ⟨_, hi, rfl⟩
    · rw [List.getElem?_set_ne hj, List.getElem?_replicate] at h
      split at h
      · cases h
        rename_i hlt
        exact ⟨σ[j]'(by omega), List.getElem?_eq_getElem (by omega), trivial⟩
      · cases h
  dist := fun j k l s t ds es h => by
    by_cases hj : i = j
    · subst hj
      have hin : i < n := by rw [← hσ]; exact (List.getElem?_eq_some_iff.mp hi).1
      rw [List.getElem?_set_self (by rw [List.length_replicate]; exact hin)] at h
      cases h
    · rw [List.getElem?_set_ne hj, List.getElem?_replicate] at h
      split at h <;> cases h
theorem len_times (z : Str) (n : Nat) : (times z n).length = n * z.length := by
  unfold times Str.length
  have : ∀ (n : Nat) (acc : Array Nat), ((List.replicate n z.cps).foldl (· ++ ·) acc).size = acc.size + n * z.cps.size := fun n => by
    induction n with
    | zero => intro acc; simp
    | succ n ih =>
      intro acc
      rw [List.replicate_succ, List.foldl_cons, ih, Array.size_append, Nat.succ_mul]
      omega
  rw [this]
  simp
/-- repr of one short text and one number -/
theorem shown_pair (x : Str) (i : Int) (hx : ∀ c ∈ x.cps.toList, c < 16 ^ 8) (h0 : 0 ≤ i) (h1 : i < 1000000) (hz : x.length ≤ 1000) :
    (PyData.list [.str x, .int i]).showable = true ∧ (PyData.list [.str x, .int i]).hasDict = false ∧ (PyData.list [.str x, .int i]).depth ≤ 60 ∧ (PyData.list [.str x, .int i]).shown.length ≤ sizeLine := by
  have hl : i.natAbs.log2 < 1920 := by
    by_cases h3 : i.natAbs = 0
    · rw [h3]; decide
    · have := (Nat.log2_lt (k := 20) h3).mpr (by omega)
      omega
  refine ⟨by simp [PyData.showable, PyData.showableAll, hl], by simp [PyData.hasDict, PyData.hasDictAll], by simp [PyData.depth, PyData.depthAll], ?_⟩
  have e : (PyData.list [.str x, .int i]).shown = Str.ofString "[" ++ (reprText x ++ Str.ofString ", " ++ Str.ofString (toString i)) ++ Str.ofString "]" := by
    rw [PyData.shown_list, PyData.shownAll_cons, PyData.shownAll_cons, PyData.shownAll_nil, PyData.shown_str, PyData.shown_int]
    rfl
  rw [e]
  have h2 := PySem.StrLaws.reprText_len x hx
  have h3 : (Str.ofString (toString i)).length ≤ 6 := PyProof.Rows.toString_length_le h0 (by decide) (by omega)
  have h4 : (Str.ofString "[").length = 1 := by decide +kernel
  have h5 : (Str.ofString "]").length = 1 := by decide +kernel
  have h6 : (Str.ofString ", ").length = 2 := by decide +kernel
  simp only [Str.length_append]
  have := sizeLine_eq
  omega
end
end Dl

/-! ## enumerate of a tuple -/
namespace Dl
open PySem PySem.Spec PyProof.Rows L2

set_option maxHeartbeats 1000000 in
theorem made_enum {v : Value} {ob : Obj} {Hq : Heap → Prop} (B : Begins v ob Hq) :
    Meets (Builtin.«enumerate.__new__» ⟨[.type "enumerate", v], []⟩) (fun _ R s => Hq s.heap ∧
      R (.ok (.ret (.ref (s.heap.push ob).objs.size))) { s with heap := (s.heap.push ob).push { cls := .type "enumerate", data := .fields #[.none, .bool false, .ref s.heap.objs.size, rawInt 0, .none, .none] } }) :=
  .of_wp fun P w A R s both => by
    obtain ⟨hp, gs, dr, tk, os⟩ := s
    obtain ⟨hv, both⟩ := both
    have subs := sub_enumerate
    have iter : ∀ {A' : Around} {E : Value → Shared → Prop} {Q : Value → Shared → Prop}, Q (.ref hp.objs.size) ⟨hp.push ob, gs, dr, tk, os⟩ → wpAny (model P w) A' (pyIter v) Q E ⟨hp, gs, dr, tk, os⟩ :=
      fun q => B.iter P w _ _ ⟨hp, gs, dr, tk, os⟩ _ hv q
    wp_walk using iter
    refine wpAny_stack_any fun _ => wpAny_pure ?_
    split
    · rename_i c5 _ _ _ _ _
      cases c5 == Value.type "enumerate" <;> (wp_walk using iter; exact ⟨_, rfl, both⟩)
    · wp_walk using iter
      exact ⟨_, rfl, both⟩

section
variable {P : Program} {w : World} {A : Around} {E : Value → Shared → Prop} {s : Shared}
theorem enum_of {v : Value} {ob : Obj} {Hq : Heap → Prop} {Q : Value → Shared → Prop} (B : Begins v ob Hq) (hv : Hq s.heap)
    (k : ∀ g : Heap, IsEnum g (s.heap.objs.size + 1) s.heap.objs.size 0 .none → g.get? s.heap.objs.size = some ob → (∀ b u, s.heap.get? b = some u → g.get? b = some u) → Q (.ref (s.heap.objs.size + 1)) { s with heap := g }) :
    wpAny (model P w) A (call (.type "enumerate") [v]) Q E s := by
  refine callType_new F.called_enumerate (by decide) (F.typeCall_enumerate_1 v) (F.newCall_enumerate_1 v) (fun x => F.args_object_init_2 x v) F.entry_enumerate_new (made_enum B) ⟨hv, ?_⟩
  have sz1 : (s.heap.push ob).objs.size = s.heap.objs.size + 1 := Heap.size_push ..
  have at1 := Heap.get?_push_size (s.heap.push ob) (o := { cls := .type "enumerate", data := .fields #[.none, .bool false, .ref s.heap.objs.size, rawInt 0, .none, .none] }) rfl
  show _ ∧ _
  rw [sz1] at at1 ⊢
  exact ⟨⟨_, at1, rfl⟩, k _ at1 (Heap.get?_push_of_some _ (Heap.get?_push_size _ B.free)) fun b u x => Heap.get?_push_of_some _ (Heap.get?_push_of_some _ x)⟩
end

/-- the tuple at a, each item with its place in a new pair -/
def Iet (K : PySem.W.Frag) (a : Addr) : It :=
  ⟨fun i H => ∃ (xs : List V) (x : V), SqT K H a xs ∧ xs[i]? = some x, fun i H v H' => ∃ T x, v = .ref T ∧ H T = none ∧ H' = upd H T (.tup [.int (i : Nat), x]) ∧ ∀ xs, SqT K H a xs → xs[i]? = some x, fun i H => ∃ xs : List V, SqT K H a xs ∧ xs.length ≤ i⟩
theorem turn_enumT {P : Program} {w : World} {K : PySem.W.Frag} {elts : List Expr} {kk : Nat} {tpos : Pos} (a e it : Addr) (hne : e ≠ it) :
    Turn P w K (.Tuple elts kk tpos) (Iet K a) [e, it] e (fun i h => (∃ old, IsEnum h e it ((i : Nat) : Int) old) ∧ h.IsTupleIter it a i) where
  mem := List.mem_cons_self
  obj := fun i h st b hb => by
    obtain ⟨⟨old, he⟩, ⟨o, ho, hc, hd⟩⟩ := st
    rcases (by simpa using hb : b = e ∨ b = it) with z | z <;> subst z
    · exact ⟨_, he, fun v q => nomatch q⟩
    · exact ⟨o, ho, fun v q => by rw [hd] at q; cases q⟩
  keep := fun i h g st k => by
    obtain ⟨⟨old, he⟩, hi⟩ := st
    exact ⟨⟨old, k e (by simp) _ he⟩, hi.at fun o q => k it (by simp) o q⟩
  item := by
    intro X hP hw hK hc i pins s σ H E I hf st hg
    subst hP hw hK
    obtain ⟨⟨old, he⟩, hit⟩ := st
    obtain ⟨xs, x, hq, hx⟩ := hg
    obtain ⟨its, rv, ht, _⟩ := I.tuple hq
    obtain ⟨u, hu, ru⟩ := rv.get hx
    have hel : e < s.heap.objs.size := Heap.lt_size he
    have hil : it < s.heap.objs.size := by
      obtain ⟨_, q, _⟩ := hit
      exact Heap.lt_size q
    by_cases hai : a = it
    · -- the iterator is no tuple
      exfalso
      obtain ⟨o, ho, hcl, hd⟩ := hit
      obtain ⟨o2, ho2, hcl2, _⟩ := (show s.heap.IsTuple a its.toArray from ht)
      rw [hai, ho] at ho2
      cases ho2
      rw [hcl] at hcl2
      exact absurd hcl2 (by decide)
    have hae : a ≠ e := by
      intro z
      obtain ⟨o2, ho2, hcl2, _⟩ := (show s.heap.IsTuple a its.toArray from ht)
      rw [z, (show s.heap.get? e = _ from he)] at ho2
      cases ho2
      simp at hcl2
    have D : Draws X.prog X.w X.A.in1 it [it, a] its.toArray.size (fun i v => its.toArray[i]? = some v) (fun i h => h.IsTupleIter it a i ∧ h.IsTuple a its.toArray) := Draws.tuple (show X.A.in1.handled = none from I.ok.hd hc) it a hai its.toArray
    have hlt : i < its.toArray.size := by
      have := (List.getElem?_eq_some_iff.mp hu).1
      simpa using this
    refine wpAny_pyNext_enum_itemD (i := i) D he ⟨hit, ht⟩ hlt hne (by simp [hne, Ne.symm hae]) fun y g tk hy ho st2 hT hsz hk => ?_
    have hy2 : y = u := by
      have : its[i]? = some y := by simpa using hy
      rw [hu] at this
      cases this
      rfl
    subst hy2
    refine ⟨_, rfl, wpAny_letOwnedTupleGo_enum (s := { s with heap := g, toks := tk + 1 }) ho fun g2 he2 sb => ?_⟩
    have at2 : g2.get? s.heap.objs.size = some { cls := .type "tuple", data := .seq #[.int i tk, y] } := (sb.2 _ (Nat.ne_of_gt hel)).trans hT
    have new : ObjOk X.prog X.w (upd H s.heap.objs.size (.tup [.int (i : Nat), x])) g2 s.heap.objs.size (.tup [.int (i : Nat), x]) :=
      ⟨(by show 2 ≤ sizeLine; decide), [.int i tk, y], .cons ⟨_, rfl⟩ (.cons ru .nil), ⟨_, at2, rfl, _, rfl⟩⟩
    have kept : ∀ b o, b ∉ [e, it] → s.heap.get? b = some o → g2.get? b = some o := fun b o hb q => by
      have h1 : b ≠ e := fun z => hb (by simp [z])
      have h2 : b ≠ it := fun z => hb (by simp [z])
      exact (sb.2 b h1).trans (hk b o h1 h2 q)
    have J : Inv X pins σ (upd H s.heap.objs.size (.tup [.int (i : Nat), x])) { s with heap := g2, toks := tk + 1 } := I.turnedNew (ch := [e, it]) kept hf (Nat.le_refl _) new
    refine ⟨.ref s.heap.objs.size, _, J, rfl, ⟨_, x, rfl, I.hok.fresh (Nat.le_refl _), rfl, fun ys hys => by rw [I.tuple_inj hys hq]; exact hx⟩, ⟨⟨y, ?_⟩, st2.1.at fun o q => (sb.2 it (Ne.symm hne)).trans q⟩, fun b hb => ?_⟩
    · rw [show ((i + 1 : Nat) : Int) = (i : Int) + 1 by omega]
      exact he2
    · have hb2 : b < s.heap.objs.size := by
        rcases (by simpa using hb : b = e ∨ b = it) with z | z <;> subst z
        · exact hel
        · exact hil
      rw [upd_ne (Nat.ne_of_lt hb2)]
      exact (hf b hb).1
  done := by
    intro X hP hw hK hc i pins s σ H E I hf st hg
    subst hP hw hK
    obtain ⟨⟨old, he⟩, hit⟩ := st
    obtain ⟨xs, hq, hx⟩ := hg
    obtain ⟨its, rv, ht, _⟩ := I.tuple hq
    have hl := rv.length
    have none_at : its.toArray[i]? = none := by
      simp
      omega
    have D : Draws X.prog X.w X.A.in1 it [it, a] i (fun _ _ => False) (fun j h => j = i ∧ h.IsTupleIter it a i ∧ h.IsTuple a its.toArray) :=
      { live := fun _ _ st => by
          obtain ⟨_, ⟨o, ho, _⟩, _⟩ := st
          exact ⟨o, ho⟩
        frame := fun _ _ _ st k => ⟨st.1, st.2.1.at fun o q => k it (by simp) o q, st.2.2.at fun o q => k a (by simp) o q⟩
        item := fun j s Q E hj st _ => absurd st.1 (Nat.ne_of_lt hj)
        done := fun s Q E st hE => wpAny_nextOf_tuple_end (show X.A.in1.handled = none from I.ok.hd hc) st.2.1 st.2.2 none_at hE }
    exact wpAny_pyNext_enum_endD D he ⟨rfl, hit, ht⟩ fun g eb => ⟨rfl, I.turnedL (t' := s.toks) (ch := [e, it]) (fun b o hb q => eb b o (fun z => hb (by simp [z])) q) hf⟩
  self := fun A i s Q E st h => by
    obtain ⟨⟨_, he⟩, _⟩ := st
    exact wpAny_pyIter_enum he h

def iEnumT (K : PySem.W.Frag) (ta : TA) : TI := fun σ H R => ta σ H fun vs H1 => ∃ a xs, vs = [.ref a] ∧ SqT K H1 a xs ∧ R (Iet K a) H1
theorem pi_enumT {X : Cx} {e : Expr} {ta : TA} {p pos tpos : Pos} {elts : List Expr} {kk : Nat} (hg : Gl X "enumerate") (hm : X.mg "enumerate" = none) (ha : PA X [e] ta) (one : starEach [e] X.env = [(false, eval e X.env)] := by rfl) :
    PI X (.Tuple elts kk tpos) (.Call (.Name "enumerate" p) [e] [] pos) (iEnumT X.K ta) := by
  constructor
  intro pins s σ H R I h
  refine Call_ (ld_blt I hg hm boot_enumerate (PyProof.Rows.callWith_type1 (thn (ha.run pos pins s σ H _ I h) fun us t1 ⟨vs, H1, J, rel, q1⟩ => ?_) one rfl))
  obtain ⟨a, xs, ev, hq, q⟩ := q1
  subst ev
  obtain ⟨u, rfl, ru⟩ := vals1 rel
  cases ru
  obtain ⟨its, rv, ht, _⟩ := J.tuple hq
  refine enum_of (begins_tuple a its.toArray) (show t1.heap.IsTuple a its.toArray from ht) fun g he hit hk => wpAny_pyIter_enum he ?_
  have J2 : Inv X pins σ H1 { t1 with heap := g } := J.kept (t' := t1.toks) hk
  refine ⟨t1.heap.objs.size + 1, [t1.heap.objs.size + 1, t1.heap.objs.size], _, _, H1, rfl, J2, turn_enumT a (t1.heap.objs.size + 1) t1.heap.objs.size (Nat.succ_ne_self _), ⟨⟨.none, he⟩, ⟨_, hit, rfl, rfl⟩⟩, fun b hb => ?_, q⟩
  have le : t1.heap.objs.size ≤ b := by
    rcases (by simpa using hb : b = t1.heap.objs.size + 1 ∨ b = t1.heap.objs.size) with z | z <;> subst z
    · exact Nat.le_succ _
    · exact Nat.le_refl _
  exact J.fpOk le (J.hok.fresh le)

section
variable {K : PySem.W.Frag} {W : Fx} {ρ : List Sk} {te : TE} {ds : List PyData}
theorem Walks.enumT {D : Hp} {a : Addr} {xs : List V} (h : SqT K D a xs) (q : DqA K D xs ds) : Walks K W D (Iet K a) (enums 0 ds) := fun i D1 H1 o g => by
  have hs : SqT K H1 a xs := same_t (g.trans o.sub) h
  refine ⟨fun d hd => ?_, fun hi => ⟨xs, hs, by rw [q.len]; rw [enums_len] at hi; exact hi⟩⟩
  obtain ⟨d', hd', e⟩ := enums_at hd
  subst e
  obtain ⟨v, hv, qv⟩ := q.at hd'
  refine ⟨⟨xs, v, hs, hv⟩, fun x H2 y => ?_⟩
  obtain ⟨T, x', e1, e2, e3, y⟩ := y
  subst e1
  subst e3
  have e4 := y xs hs
  rw [hv] at e4
  cases e4
  have s2 : Step W D1 H1 (upd D1 T (.tup [.int ((i : Nat) : Int), v])) (upd H1 T (.tup [.int ((i : Nat) : Int), v])) := .made o e2
  refine ⟨_, s2, .tup (Or.inl (Or.inl upd_same)) ?_⟩
  rw [Nat.zero_add]
  exact .cons (.int _) (.cons ((qv.up g).up s2.gro) .nil)
theorem ei_enumT (h : EvD K W te ρ (.tuple ds)) : EvI K W (iEnumT K (tCons te tNil)) ρ (· = enums 0 ds) := fun D0 H0 D H σ e R k =>
  h D0 H0 D H σ e _ fun v D' H' d s q p => by
    subst p
    cases q with
    | tup h1 h2 => exact ⟨_, _, rfl, same_t s.sub h1, k _ D' H' _ s (.enumT h1 h2) rfl⟩
end
end Dl

/-! ## Tuples, parallel assignments with a list, dicts of data -/
namespace Dl
open PySem PySem.Spec PyProof.Rows L2

/-- a statement that raises nothing, in a def that may -/
theorem PS_nox {X : Cx} {st : Stmt} {t : TS} (h : PS X.nox st t) : PS X st t :=
  ⟨fun ps s σ H D J k => wpAny_mono (h.run ps s σ H D (J.wish _) k) (fun _ _ z => z.unwish) fun _ _ z => z.elim⟩

/-! ### tuple(range(a, b, c)) -/
def tTupRg3 (ta : TA) : TE := fun σ H Q => ta σ H fun vs H1 => ∃ (i j c : Int) (n : Nat), vs = [.int i, .int j, .int c] ∧ RgC i j c n ∧ n ≤ 2 ^ 24 ∧ ∀ q, H1 q = none → Q (.ref q) (upd H1 q (.tup (rgC i c n)))
theorem pe_tupRg3 {X : Cx} {a b c : Expr} {ta : TA} {p1 p2 pos1 pos2 : Pos} (hc : X.calm = true) (hg1 : Gl X "tuple") (hm1 : X.mg "tuple" = none) (hg : Gl X "range") (hm : X.mg "range" = none) (ha : PA X [a, b, c] ta)
    (hs : starEach [a, b, c] X.env = (false, eval a X.env) :: starEach [b, c] X.env := by rfl) (hpl : (backTo pos2 (starEach [b, c] X.env)).any (·.1) = false := by rfl)
    (na : starEach [.Call (.Name "range" p2) [a, b, c] [] pos2] X.env = (false, eval (.Call (.Name "range" p2) [a, b, c] [] pos2) X.env) :: starEach [] X.env := by rfl) :
    PE X (.Call (.Name "tuple" p1) [.Call (.Name "range" p2) [a, b, c] [] pos2] [] pos1) (tTupRg3 ta) := by
  refine ⟨fun pins s σ H Q I h => ?_⟩
  refine Call_ (ld_blt I hg1 hm1 boot_tuple (PyProof.Rows.callWith_type1 (args_cons (thn (Q := fun x s1 => ∃ r i j k n t u v H1, x = .ref r ∧ IsRange s1.heap r i j k t u v ∧ Inv X pins σ H1 s1 ∧ RgC i j k n ∧ n ≤ 2 ^ 24 ∧ ∀ q, H1 q = none → Q (.ref q) (upd H1 q (.tup (rgC i k n))))
    (Call_ (ld_blt I hg hm boot_range (PyProof.Rows.callWith_type1 (thn (ha.run pos2 pins s σ H _ I h) fun us s1 ⟨vs, H1, I1, r1, q1⟩ => ?_) hs hpl))) fun x s1 hx => args_nil ?_) na) na))
  · obtain ⟨i, j, k, n, e, ⟨c0, c1, c2, c3⟩, q0, q⟩ := q1
    subst e
    cases r1 with
    | cons r rr =>
      cases rr with
      | cons r' rr =>
        cases rr with
        | cons r'' rr =>
          cases rr
          obtain ⟨t, rfl⟩ := r
          obtain ⟨t', rfl⟩ := r'
          obtain ⟨t'', rfl⟩ := r''
          refine call_range_3 c0 ?_ (.inl (PyProof.noPylong_small c1))
          exact ⟨_, i, j, k, n, t, t', t'', H1, rfl, IsRange.new .., I1.kept (t' := s1.toks) fun b o e => Heap.get?_push_of_some _ e, ⟨c0, c1, c2, c3⟩, q0, q⟩
  · obtain ⟨r, i, j, k, n, t, u, v, H1, ex, hr, I1, ⟨c0, c1, c2, c3⟩, q0, q⟩ := hx
    subst ex
    refine call_tuple_range (n := n) (I1.ok.hd hc) hr c2 c3 q0 fun g tk acc hk hi => ?_
    have I2 : Inv X pins σ H1 { s1 with heap := g, toks := tk } := I1.kept hk
    refine ⟨.ref g.objs.size, upd H1 g.objs.size (.tup (rgC i k n)), I2.laid (t' := tk) (fun c o e => Heap.get?_push_of_some _ e) (Nat.le_refl _) (show ObjOk X.prog X.w _ _ _ (.tup (rgC i k n)) from ⟨?_, acc.toList, vals_rgC hi, ?_⟩), rfl, q _ (I2.hok.fresh (Nat.le_refl _))⟩
    · unfold rgC
      rw [List.length_map, List.length_range, sizeLine_eq]
      omega
    · rw [Array.toArray_toList]
      exact IsTup.new _ _

section
variable {K : PySem.W.Frag} {W : Fx} {EX : Hp → Prop} {ρ : List Sk} {P P1 P2 P3 : PyData → Prop} {te ta tb tc : TE} {ds : List PyData} {tr : TS} {O : Out} {PA PL : List PyData → Prop}
theorem ev_tupRg3 {ta : TA} (h : EvA K W ta ρ PA) (hp : ∀ ds, PA ds → ∃ (i j c : Int) (n : Nat), ds = [.int i, .int j, .int c] ∧ RgC i j c n ∧ n ≤ 2 ^ 24 ∧ P (.tuple ((List.range n).map fun k => PyData.int (i + ((k : Nat) : Int) * c)))) : EvN K W (tTupRg3 ta) ρ P := fun D0 H0 D H σ e Q q =>
  h D0 H0 D H σ e _ fun vs D1 H1 ds s1 q1 p1 => by
    obtain ⟨i, j, c, n, e1, h1, h2, h3⟩ := hp ds p1
    subst e1
    have ev : vs = [.int i, .int j, .int c] := q1.isInts [i, j, c]
    refine ⟨i, j, c, n, ev, h1, h2, fun l hl => ?_⟩
    exact q (.ref l) _ _ _ (s1.trans e.ok (.made (s1.ok e.ok) hl)) (.tup (Or.inl (Or.inl upd_same)) (DqA.rgC n)) h3
/-- tuple(range(n)) -/
theorem ev_tupRg {n : Nat} (h : EvD K W te ρ (.int (n : Int))) (hn : n ≤ 100000) : EvD K W (tTupRg (tRg1 te)) ρ (.tuple (ups 0 n)) := fun D0 H0 D H σ e Q q =>
  h D0 H0 D H σ e _ fun v D1 H1 d s1 q1 p1 => by
    subst p1
    cases q1
    refine ⟨(n : Int), rfl, .of_le (Int.le_refl 0) (by omega) (by decide) (by omega), fun l hl => ?_⟩
    have er : rgV 0 (n : Int) = (List.range n).map fun i => V.int (0 + (i : Nat)) := by
      unfold rgV
      rw [Int.sub_zero, Int.toNat_natCast]
    have dq : ∀ D : Hp, DqA K D (rgV 0 (n : Int)) (ups 0 n) := fun D => by
      rw [er]
      unfold ups
      have aux : ∀ ks : List Nat, DqA K D (ks.map fun i => V.int (0 + (i : Nat))) (ks.map fun (i : Nat) => PyData.int (0 + (i : Int))) := fun ks => by
        induction ks with
        | nil => exact .nil
        | cons k ks ih => exact .cons (.int _) ih
      exact aux _
    exact q (.ref l) _ _ _ (s1.trans e.ok (.made (s1.ok e.ok) hl)) (.tup (Or.inl (Or.inl upd_same)) (dq _)) rfl
def rTupOf (K : PySem.W.Frag) : List V → Hp → VK → Prop := fun xs H Q => ∃ p ys, xs = [.ref p] ∧ ((SqL K H p ys ∧ ∀ l, H l = none → Q (.ref l) (upd H l (.tup ys))) ∨ (SqT K H p ys ∧ Q (.ref p) H))
/-- tuple(a list) -/
theorem ev_tupOfL (h : EvB K W te ρ PA) : EvN K W (tCB (rTupOf K) (tCons te tNil)) ρ (fun d => ∃ ds, PA ds ∧ d = .tuple ds) := fun D0 H0 D H σ e Q q =>
  h D0 H0 D H σ e _ fun l xs D1 H1 ds s1 a q1 p1 => ⟨l, xs, rfl, Or.inl ⟨a, fun p hp => by
    have s2 : Step W D1 H1 (upd D1 p (.tup xs)) (upd H1 p (.tup xs)) := .made (s1.ok e.ok) hp
    exact q (.ref p) _ _ (.tuple ds) (s1.trans e.ok s2) (.tup (Or.inl (Or.inl upd_same)) (q1.up s2.gro)) ⟨ds, p1, rfl⟩⟩⟩
theorem ev_tupOfLD (h : EvB K W te ρ (· = ds)) : EvD K W (tCB (rTupOf K) (tCons te tNil)) ρ (.tuple ds) := (ev_tupOfL h).imp fun d ⟨_, e1, e2⟩ => by rw [e2, e1]
/-- tuple(a tuple): itself -/
theorem ev_tupOfT (h : EvD K W te ρ (.tuple ds)) : EvD K W (tCB (rTupOf K) (tCons te tNil)) ρ (.tuple ds) := fun D0 H0 D H σ e Q q =>
  h D0 H0 D H σ e _ fun v D1 H1 d s1 q1 p1 => by
    subst p1
    cases q1 with
    | tup h1 h2 => exact ⟨_, _, rfl, Or.inr ⟨same_t s1.sub h1, q _ D1 H1 _ s1 (.tup h1 h2) rfl⟩⟩

/-! ### a, b = .., [..]; a, b, c = .., .., [..] -/
theorem Env.new {D0 H0 D H : Hp} {σ : L2.St} {i : Nat} {l : Addr} {sh : Shp} {xs : List V} (e : Env K W D0 H0 D H σ ρ) {D1 H1 : Hp} (s : Step W D H D1 H1) (hn : H l = none) (hd : D1 l = none) (hl : H1 l = some (sh.ho xs)) (q : DqA K D1 xs ds) (hi : i < ρ.length)
    {ρ2 : List Sk} {σ2 : L2.St} (e2 : Env K W D0 H0 D1 H1 σ2 ρ2) (hi2 : i < ρ2.length) (hs : ∀ (j : Nat) t es, j ≠ i → ρ2[j]? = some (.ob t es) → ρ[j]? = some (.ob t es) ∧ σ2[j]? = σ[j]?) : Env K W D0 H0 D1 H1 (σ2.set i (some (.ref l))) (ρ2.set i (.ob sh ds)) := by
  have h0 : H0 l = none := by
    cases z : H0 l with
    | none => rfl
    | some u =>
      by_cases hw : W.adr l
      · exact (W.has H l e.st.inv hw hn).elim
      · rw [e.st.off l u hw z] at hn
        cases hn
  refine e2.setOwn hi2 hd h0 (fun hw => W.has H l e.st.inv hw hn) hl q fun j t es hj hj1 hj2 => ?_
  obtain ⟨hj1, hj3⟩ := hs j t es hj hj1
  rw [hj3] at hj2
  obtain ⟨o, q1, m, ys, q2, q3, q4, q5, q6, q7⟩ := e.slot j _ hj1
  rw [hj2] at q1
  cases q1
  cases q2
  rw [hn] at q6
  cases q6
theorem st_parF {i j : Nat} (hi : i < ρ.length) (hj : j < ρ.length) (ha : EvN K W ta ρ P1) (hb : EvF K W tb ρ PL) (k : ∀ d ds, P1 d → PL ds → StG K W EX tr ((ρ.set i (.dat d)).set j (.own ds)) O) :
    StG K W EX (tSeq (tPar i j (tCons ta (tCons tb tNil))) tr) ρ O := fun D0 H0 D H σ Dn e kn kb kc kr kx =>
  ha D0 H0 D H σ e _ fun v D1 H1 d s1 q1 p1 => hb D0 H0 D1 H1 σ (e.step s1) _ fun l xs D2 H2 ds s2 hn hd hl q2 p2 => by
    have g : Same D D2 := s1.gro.trans s2.gro
    refine ⟨v, .ref l, rfl, ?_⟩
    have e1 := e.step s1
    have e2 := (e1.step s2).set hi (q1.up s2.gro)
    have e3 : Env K W D0 H0 D2 H2 ((σ.set i (some v)).set j (some (.ref l))) ((ρ.set i (.dat d)).set j (.own ds)) := e1.new (sh := .lst) s2 hn hd hl q2 hj e2 (by rw [List.length_set]; exact hj) fun m t es hm h => by
      by_cases him : i = m
      · subst him
        rw [List.getElem?_set_self hi] at h
        cases h
      · rw [List.getElem?_set_ne him] at h
        exact ⟨h, by rw [List.getElem?_set_ne him]⟩
    exact k d ds p1 p2 D0 H0 D2 H2 _ Dn e3 (fun a b c x g2 => kn a b c x (g.trans g2)) (fun a b c x g2 => kb a b c x (g.trans g2)) (fun a b c x g2 => kc a b c x (g.trans g2)) kr kx
theorem st_par3F {i j m : Nat} (hi : i < ρ.length) (hj : j < ρ.length) (hm : m < ρ.length) (ha : EvN K W ta ρ P1) (hb : EvN K W tb ρ P2) (hc : EvF K W tc ρ PL) (k : ∀ d1 d2 ds, P1 d1 → P2 d2 → PL ds → StG K W EX tr (((ρ.set i (.dat d1)).set j (.dat d2)).set m (.own ds)) O) :
    StG K W EX (tSeq (tPar3 i j m (tCons ta (tCons tb (tCons tc tNil)))) tr) ρ O := fun D0 H0 D H σ Dn e kn kb kc kr kx =>
  ha D0 H0 D H σ e _ fun v D1 H1 d s1 q1 p1 => hb D0 H0 D1 H1 σ (e.step s1) _ fun v2 D2 H2 d2 s2 q2 p2 => hc D0 H0 D2 H2 σ ((e.step s1).step s2) _ fun l xs D3 H3 ds s3 hn hd hl q3 p3 => by
    have g : Same D D3 := (s1.gro.trans s2.gro).trans s3.gro
    refine ⟨v, v2, .ref l, rfl, ?_⟩
    have e2 := (e.step s1).step s2
    have e3 := ((e2.step s3).set hi ((q1.up s2.gro).up s3.gro)).set (i := j) (by rw [List.length_set]; exact hj) (q2.up s3.gro)
    have e4 : Env K W D0 H0 D3 H3 (((σ.set i (some v)).set j (some v2)).set m (some (.ref l))) (((ρ.set i (.dat d)).set j (.dat d2)).set m (.own ds)) := e2.new (sh := .lst) s3 hn hd hl q3 hm e3 (by rw [List.length_set, List.length_set]; exact hm) fun x t es hx h => by
      by_cases hjx : j = x
      · subst hjx
        rw [List.getElem?_set_self (by rw [List.length_set]; exact hj)] at h
        cases h
      · rw [List.getElem?_set_ne hjx] at h
        by_cases hix : i = x
        · subst hix
          rw [List.getElem?_set_self hi] at h
          cases h
        · rw [List.getElem?_set_ne hix] at h
          exact ⟨h, by rw [List.getElem?_set_ne hjx, List.getElem?_set_ne hix]⟩
    exact k d d2 ds p1 p2 p3 D0 H0 D3 H3 _ Dn e4 (fun a b c x g2 => kn a b c x (g.trans g2)) (fun a b c x g2 => kb a b c x (g.trans g2)) (fun a b c x g2 => kc a b c x (g.trans g2)) kr kx

/-! ### a dict of data that stands still -/
theorem Env.setDD {D0 H0 D H : Hp} {σ : L2.St} (e : Env K W D0 H0 D H σ ρ) {i : Nat} {v : V} {f : Int → Option PyData} (hi : i < ρ.length) (q : SlotOk K W H0 D H (some v) (.dd f)) : Env K W D0 H0 D H (σ.set i (some v)) (ρ.set i (.dd f)) where
  ok0 := e.ok0
  st := e.st
  slot := fun j k h => by
    have hσ : i < σ.length := e.lt (List.getElem?_eq_getElem hi)
    by_cases hj : i = j
    · subst hj
      rw [List.getElem?_set_self hi] at h
      cases h
      exact ⟨some v, List.getElem?_set_self hσ, q⟩
    · rw [List.getElem?_set_ne hj] at h
      obtain ⟨o, h1, h2⟩ := e.slot j k h
      exact ⟨o, by rw [List.getElem?_set_ne hj]; exact h1, h2⟩
  dist := fun j k l sh th ds es h1 h2 h3 h4 => by
    by_cases hj : i = j
    · subst hj
      rw [List.getElem?_set_self hi] at h1
      cases h1
    · by_cases hk : i = k
      · subst hk
        rw [List.getElem?_set_self hi] at h2
        cases h2
      · rw [List.getElem?_set_ne hj] at h1 h3
        rw [List.getElem?_set_ne hk] at h2 h4
        exact e.dist j k l sh th ds es h1 h2 h3 h4
def EvDD (K : PySem.W.Frag) (W : Fx) (te : TE) (ρ : List Sk) (f : Int → Option PyData) : Prop := ∀ D0 H0 D H σ, Env K W D0 H0 D H σ ρ → ∀ Q : VK,
  (∀ v D' H', Step W D H D' H' → SlotOk K W H0 D' H' (some v) (.dd f) → Q v H') → te σ H Q
theorem st_parDD {i j : Nat} {f : Int → Option PyData} (hi : i < ρ.length) (hj : j < ρ.length) (ha : EvN K W ta ρ P1) (hb : EvDD K W tb ρ f) (k : ∀ d, P1 d → StG K W EX tr ((ρ.set i (.dat d)).set j (.dd f)) O) :
    StG K W EX (tSeq (tPar i j (tCons ta (tCons tb tNil))) tr) ρ O := fun D0 H0 D H σ Dn e kn kb kc kr kx =>
  ha D0 H0 D H σ e _ fun v D1 H1 d s1 q1 p1 => hb D0 H0 D1 H1 σ (e.step s1) _ fun v2 D2 H2 s2 q2 => by
    have g : Same D D2 := s1.gro.trans s2.gro
    refine ⟨v, v2, rfl, ?_⟩
    have e3 := (((e.step s1).step s2).set hi (q1.up s2.gro)).setDD (i := j) (by rw [List.length_set]; exact hj) q2
    exact k d p1 D0 H0 D2 H2 _ Dn e3 (fun a b c x g2 => kn a b c x (g.trans g2)) (fun a b c x g2 => kb a b c x (g.trans g2)) (fun a b c x g2 => kc a b c x (g.trans g2)) kr kx
theorem ev_ddget {i : Nat} {f : Int → Option PyData} {k : Int} {d : PyData} (hρ : ρ[i]? = some (.dd f)) (h : EvD K W te ρ (.int k)) (hf : f k = some d) : EvD K W (tDGet (tVar i) te) ρ d := fun D0 H0 D H σ e Q q => by
  obtain ⟨o, h1, a, kvs, h2, h3, h4⟩ := e.slot i _ hρ
  subst h2
  refine ⟨_, h1, h D0 H0 D H σ e _ fun v D1 H1 d1 s1 q1 p1 => ?_⟩
  subst p1
  cases q1
  rcases h4 k with ⟨_, z⟩ | ⟨v, d2, z1, z2, z3⟩
  · rw [hf] at z
    cases z
  · rw [hf] at z2
    cases z2
    have ha : H1 a = some (.dK kvs) := s1.sub a _ (s1.gro a _ h3)
    refine ⟨a, v, rfl, ?_, q v D1 H1 _ s1 (z3.up s1.gro) rfl⟩
    have g := DGet.k (k := .inl k) ha
    rw [z1] at g
    exact g
theorem ev_ddin {i : Nat} {f : Int → Option PyData} {k : Int} (hρ : ρ[i]? = some (.dd f)) (h : EvD K W te ρ (.int k)) : EvD K W (tDIn te (tVar i)) ρ (.bool (f k).isSome) := fun D0 H0 D H σ e Q q =>
  h D0 H0 D H σ e _ fun v D1 H1 d1 s1 q1 p1 => by
    subst p1
    cases q1
    obtain ⟨o, h1, a, kvs, h2, h3, h4⟩ := (e.step s1).slot i _ hρ
    subst h2
    have ha : H1 a = some (.dK kvs) := s1.sub a _ h3
    refine ⟨_, h1, a, _, rfl, DGet.k (k := .inl k) ha, ?_⟩
    rcases h4 k with ⟨z1, z2⟩ | ⟨v, d2, z1, z2, z3⟩
    · rw [z1]
      exact q _ D1 H1 _ s1 (.bl _) (by rw [z2]; rfl)
    · rw [z1]
      exact q _ D1 H1 _ s1 (.bl _) (by rw [z2]; rfl)
/-- dict([(k, v), ..]) with unlike keys -/
theorem merge_app : ∀ (more kvs : List (Key × V)), (∀ p ∈ more, ∀ q ∈ kvs, q.1 ≠ p.1) → (more.map (·.1)).Nodup → mergeK kvs more = kvs ++ more
  | [], kvs, _, _ => by simp [mergeK]
  | p :: more, kvs, h, hn => by
    have h1 : putK kvs p.1 p.2 = kvs ++ [(p.1, p.2)] := by
      unfold putK
      rw [if_neg]
      simp only [List.any_eq_true, decide_eq_true_eq, not_exists, not_and]
      exact fun q hq => h p List.mem_cons_self q hq
    have h2 : mergeK kvs (p :: more) = mergeK (kvs ++ [p]) more := by
      show more.foldl _ (putK kvs p.1 p.2) = _
      rw [h1]
      rfl
    rw [List.map_cons, List.nodup_cons] at hn
    rw [h2, merge_app more (kvs ++ [p]) (fun x hx q hq => ?_) hn.2, List.append_assoc]
    · rfl
    · rcases List.mem_append.mp hq with hq | hq
      · exact h x (List.mem_cons_of_mem _ hx) q hq
      · rw [List.mem_singleton] at hq
        subst hq
        intro z
        exact hn.1 (by rw [z]; exact List.mem_map_of_mem hx)
def pairD (p : Int × PyData) : PyData := .tuple [.int p.1, p.2]
def rDict (K : PySem.W.Frag) : List V → Hp → VK → Prop := fun xs H Q => ∃ (a : Addr) (ps : List Addr) (kvs : List (Key × V)), xs = [.ref a] ∧ SqL K H a (ps.map V.ref) ∧ Paired (fun p kv => SqT K H p [kV kv.1, kv.2]) ps kvs ∧
    ∀ p, H p = none → Q (.ref p) (upd H p (.dK (mergeK [] kvs)))
theorem pairs_of_dq {D H : Hp} (sub : Same D H) : ∀ (l : List (Int × PyData)) (xs : List V), DqA K D xs (l.map pairD) → ∃ (ps : List Addr) (kvs : List (Key × V)), xs = ps.map V.ref ∧ Paired (fun p kv => SqT K H p [kV kv.1, kv.2]) ps kvs ∧
    kvs.map (·.1) = l.map (fun p => Sum.inl p.1) ∧ ∀ k : Int, (valV kvs (.inl k) = none ∧ (l.find? fun p => decide (p.1 = k)) = none) ∨ ∃ v p, valV kvs (.inl k) = some v ∧ (l.find? fun p => decide (p.1 = k)) = some p ∧ Dq K D v p.2
  | [], xs, h => by
    cases h
    exact ⟨[], [], rfl, .nil, rfl, fun k => Or.inl ⟨rfl, rfl⟩⟩
  | (n, d) :: l, xs, h => by
    cases h with
    | cons h1 h2 =>
      obtain ⟨ps, kvs, rfl, q1, q2, q3⟩ := pairs_of_dq sub l _ h2
      cases h1 with
      | tup g1 g2 =>
        rename_i a ys
        cases g2 with
        | cons g2 g3 =>
          cases g2
          cases g3 with
          | cons g3 g4 =>
            cases g4
            rename_i v
            refine ⟨a :: ps, (.inl n, v) :: kvs, rfl, .cons (same_t sub g1) q1, by rw [List.map_cons, List.map_cons, q2], fun k => ?_⟩
            by_cases hk : n = k
            · subst hk
              exact Or.inr ⟨v, (n, d), by simp [valV], by simp, g3⟩
            · have e1 : valV ((.inl n, v) :: kvs) (.inl k) = valV kvs (.inl k) := by
                simp [valV, List.find?_cons, hk]
              have e2 : (((n, d) :: l).find? fun p => decide (p.1 = k)) = l.find? fun p => decide (p.1 = k) := by
                simp [List.find?_cons, hk]
              rw [e1, e2]
              exact q3 k
theorem evdd_dict {l : List (Int × PyData)} (h : EvB K W te ρ (· = l.map pairD)) (hn : (l.map (·.1)).Nodup) : EvDD K W (tCB (rDict K) (tCons te tNil)) ρ (fun k => (l.find? fun p => decide (p.1 = k)).map (·.2)) := fun D0 H0 D H σ e Q q =>
  h D0 H0 D H σ e _ fun b xs D1 H1 ds s1 a q1 p1 => by
    subst p1
    have o1 := s1.ok e.ok
    obtain ⟨ps, kvs, rfl, c1, c2, c3⟩ := pairs_of_dq o1.sub l xs q1
    refine ⟨b, ps, kvs, rfl, a, c1, fun p hp => ?_⟩
    have em : mergeK [] kvs = kvs := by
      rw [merge_app kvs [] (fun _ _ _ h => nomatch h) (by
        rw [c2]
        have : l.map (fun p => (Sum.inl p.1 : Key)) = (l.map (·.1)).map Sum.inl := by rw [List.map_map]; rfl
        rw [this]
        exact List.Pairwise.map _ (fun a b hab z => hab (by injection z)) hn)]
      rfl
    rw [em]
    have s2 : Step W D1 H1 (upd D1 p (.dK kvs)) (upd H1 p (.dK kvs)) := .made o1 hp
    refine q (.ref p) _ _ (s1.trans e.ok s2) ⟨p, kvs, rfl, upd_same, fun k => ?_⟩
    rcases c3 k with ⟨z1, z2⟩ | ⟨v, x, z1, z2, z3⟩
    · exact Or.inl ⟨z1, by show (l.find? _).map _ = none; rw [z2]; rfl⟩
    · exact Or.inr ⟨v, x.2, z1, by show (l.find? _).map _ = some _; rw [z2]; rfl, z3.up s2.gro⟩
end
end Dl

namespace PySem
namespace LowX
open PySem.W PySem.Calls PyProof.Rows PySem.HandSPX
/-! ### the text of __init__ -/
def iA (p1 p2 : Pos) : Arguments := { posonlyargs := [], args := [{ arg := "self", annotation := none, pos := p1 }, { arg := "given", annotation := none, pos := p2 }], vararg := none, kwonlyargs := [], kw_defaults := [], kwarg := none, defaults := [] }
def iB (q1 q2 q3 q4 : Pos) : List Stmt := [.Assign [.Attribute (.Name "self" q1) "given" q2] (.Name "given" q3) q4]
def iS : Scope := { kind := .function, names := [(PySem.Str.ofString "self", .local), (PySem.Str.ofString "given", .local)], isGenerator := false, isCoroutine := false, more := [] }
/-- what the written part says of Low, at C, and of its __init__, at fI -/
structure LowTxt (cn qn : Str) (K : Frag) (mg : Str → Option Value) (C fI : Addr) : Prop where
  gC : mg cn = some (.ref C)
  cls : ∃ nm q N bs bm sn sub ab col dd k0 k1 k2 k3 k5, K.lookup C = some (excClassObj nm q C N bs bm true sn sub ab col dd k0 k1 k2 k3 k5 "ValueError.__new__") ∧ refsVE bm = true
  sa : findIn K (.ref C) "__setattr__" = some (some (.builtin "object.__setattr__"))
  ga : findIn K (.ref C) "__getattribute__" = some (some (.builtin "BaseException.__getattribute__"))
  gg : findIn K (.ref C) "__getattr__" = some none
  noN : findIn K (.ref C) "given" = some none
  iC : findIn K (.ref C) "__init__" = some (some (.ref fI))
  tC : typeIn K (.ref fI) = some (.type "function")
  kC : keepIn K (.ref C) = true
  exC : subIn K (.ref C) (.type "BaseException") = some true
  tyC : typeIn K (.ref C) = some (.type "type")
  hdC : hasDictIn K C = true
  te : exmOne K (.ref C) (.ref C) = some true
  fn : ∃ (oc : Value) (od : Option Addr) (doc pm : Value) (an : Option Addr) (cdv ct : Value) (osl : Array (Option Value)) (p1 p2 q1 q2 q3 q4 : Pos),
    K.lookup fI = some ⟨oc, od, .func (fnOf "__init__" qn (iA p1 p2) (iB q1 q2 q3 q4) iS .none .none doc pm an cdv ct), osl⟩ ∧ codeIn K cdv qn = true
theorem one_size (v : Value) : [v].length ≤ sizeLine := by
  rw [sizeLine_eq]
  exact (by decide : 1 ≤ 16777216)
theorem kept_but {K : Frag} {h h' : Heap} {x : Addr} (X : K.In h) (hx : K.lookup x = none) (k : ∀ b o, b ≠ x → h.get? b = some o → h'.get? b = some o) : K.In h' := fun a o e =>
  k a o (fun z => by rw [z, hx] at e; cases e) (X a o e)
theorem ldC {M : Model} {s : Shared} {name : Str} {scope : Scope} {L a : Addr} {cd : Value} {m : Str → Option Value} {x : Str} {pos : Pos} {v : Value} {Q : Value → Shared → Prop} {A : Around} {E : Value → Shared → Prop} (hn : s.heap.Ns L m) (hv : m x = some v) (h : Q v s)
    (hk : scope.kind = .function := by rfl) (hl : (envOfC name scope L a cd).kindOf x = some .local := by rfl) (hd : (x == ("__debug__" : Str)) = false := by decide) :
    wpAny M A (eval (.Name x pos) (envOfC name scope L a cd)) Q E s := wpAny_Name (wpAny_loadName_local hk hl hn hv h) hd
/-- what __init__ leaves of a fresh exception at x -/
structure InitEnd (h h' : Heap) (x C dx t1 : Addr) (v : Value) : Prop where
  keep : ∀ b o, b ≠ x → h.get? b = some o → h'.get? b = some o
  obj : h'.get? x = some { cls := .ref C, dict := some dx, data := .fields #[.ref t1, .none, .none, .none, .bool false, .none] }
  dbig : h.objs.size ≤ dx
  dne : dx ≠ x
  ns : h'.Ns1 dx (fun y => if y = "given" then some v else none)
/-- a made Low -/
structure OwnMade (h h' : Heap) (e C d : Addr) (v : Value) : Prop where
  keep : ∀ b o, h.get? b = some o → h'.get? b = some o
  new : h.objs.size ≤ e
  obj : ∃ oe vs, h'.get? e = some oe ∧ oe.cls = .ref C ∧ oe.dict = some d ∧ oe.data = .fields vs ∧ vs[1]? = some .none
  dbig : h.objs.size ≤ d
  dne : d ≠ e
  ns : h'.Ns1 d (fun y => if y = "given" then some v else none)
section
variable {cn qn : Str} {prog : Program} {w : World} {A : Around} {E : Value → Shared → Prop} {R : Result → Shared → Prop} {s : Shared} {K : Frag} {mg : Str → Option Value} {C fI : Addr}
theorem low_init (T : LowTxt cn qn K mg C fI) {x t0 : Addr} {v : Value} (X : K.In s.heap) (hlim : s.heap.NoLimit) (hx : s.heap.get? x = some (excO C t0)) (hnx : K.lookup x = none) (hroom : A.depth < recursionLimit)
    (hq : ∀ h' tk dx, InitEnd s.heap h' x C dx t0 v → R (.ok (.ret .none)) { s with heap := h', toks := tk }) :
    codeAny (model prog w) A (.call (.ref fI) ⟨[.ref x, v], []⟩) R s := by
  obtain ⟨oc, od, doc, pm, an, cdv, ct, osl, p1, p2, q1, q2, q3, q4, ho, hcd⟩ := T.fn
  obtain ⟨nm, q, N, bs, bm, sn, sub, ab, col, dd, k0, k1, k2, k3, k5, hC, hbm⟩ := T.cls
  have hcl : clsIn K C = some { name := nm, bases := bs, mro := .ref C :: bm, ns := N, qualname := q, hasDict := true, slotNames := sn, subclasses := sub, abstract := ab, collection := col, hasDel := false } := by unfold clsIn; rw [hC] <;> rfl
  refine Att.call_fn (binds := [("self", .ref x), ("given", v)]) X hlim ho hcd hroom (BindsTo.of_eq (by first | rfl | with_unfolding_all rfl)) (by first | rfl | decide | with_unfolding_all rfl) (fun s₁ IC => ?_) rfl rfl rfl
  obtain ⟨h₁, tk₁, rfl⟩ := IC.toInCall.same
  have k : ∀ b o, s.heap.get? b = some o → h₁.get? b = some o := IC.toInCall.keep
  have hn := IC.toInCall.ns
  have hxL : s.heap.objs.size ≠ x := Nat.ne_of_gt (Heap.lt_size hx)
  have X₁ : K.In h₁ := X.keeps k
  have hx₁ := k _ _ hx
  -- self.by = by
  show wpAny _ _ (execs _ _) _ _ _
  refine wpAny_execs_cons (plainObj_wpAny_Assign_Attribute ?_)
  refine ldC (v := v) hn (by first | rfl | with_unfolding_all rfl | kernel_rfl) (ldC (v := .ref x) hn (by first | rfl | with_unfolding_all rfl | kernel_rfl) ?_)
  refine set_plain X₁ (ox := excO C t0) (od := none) ⟨hx₁, rfl, rfl, trivial⟩ T.sa ?_
  refine exc_osa X₁ hx₁ hcl (show refsVE (.ref C :: bm) = true from hbm) rfl T.noN (fun h₃ tk₃ dx k₃ dn dne hx₃ hn₃ => ?_)
  show wpAny _ _ (execs _ _) _ _ _
  have z : s.heap.objs.size < h₁.objs.size := hn.lt
  exact wpAny_execs_nil (hq h₃ tk₃ dx ⟨fun b o hb e => k₃ b o hb (k b o e), hx₃, Nat.le_of_lt (Nat.lt_of_lt_of_le z dn), dne, hn₃⟩)
theorem low_made (T : LowTxt cn qn K mg C fI) {v : Value} (X : K.In s.heap) (hlim : s.heap.NoLimit) (hroom : A.depth + 1 < recursionLimit)
    (hq : ∀ h' tk e d, OwnMade s.heap h' e C d v → R (.ok (.ret (.ref e))) { s with heap := h', toks := tk }) :
    codeAny (model prog w) A (.call (.ref C) ⟨[v], []⟩) R s := by
  obtain ⟨nm, q, N, bs, bm, sn, sub, ab, col, dd, k0, k1, k2, k3, k5, hC, hbm⟩ := T.cls
  obtain ⟨hp, g, dr, tk, os⟩ := s
  have k : ∀ b o, hp.get? b = some o → ((hp.push (kdv_tup [v])).push (excO C hp.objs.size)).get? b = some o := fun b o e => Heap.get?_push_of_some _ (Heap.get?_push_of_some _ e)
  have hget : ((hp.push (kdv_tup [v])).push (excO C hp.objs.size)).get? (hp.objs.size + 1) = some (excO C hp.objs.size) := by heap_get
  have hnx : K.lookup (hp.objs.size + 1) = none := by
    cases e : K.lookup (hp.objs.size + 1) with
    | none => rfl
    | some o =>
      have z : hp.get? (hp.objs.size + 1) = some o := X _ _ e
      exact absurd (Nat.lt_of_succ_lt (Heap.lt_size z)) (Nat.lt_irrefl _)
  refine call_own F.excBase_ValueError (fun X => refsVE_contains X bm hbm) (X _ _ hC) (looks_findIn X T.iC) (fun self => bind_fn X self T.tC) (one_size v) ?_
  refine low_init (s := ⟨(hp.push (kdv_tup [v])).push (excO C hp.objs.size), g, dr, tk, os⟩) T (X.keeps k) (hlim.keeps k) hget hnx ?_ fun h' tk' dx ⟨k', hx, dn, dne, hns⟩ => ?_
  · show A.depth + 1 < recursionLimit
    exact hroom
  · have old : ∀ b o, hp.get? b = some o → h'.get? b = some o := fun b o e => k' b o (Nat.ne_of_lt (Nat.lt_succ_of_lt (Heap.lt_size e))) (k b o e)
    have z : hp.objs.size + 1 + 1 ≤ dx := by
      first
        | (simpa only [Heap.size_push] using dn)
        | exact dn
        | (have q := dn; rw [Heap.size_push, Heap.size_push] at q; exact q)
    exact ⟨rfl, hq h' tk' (hp.objs.size + 1) dx ⟨old, Nat.le_succ _, ⟨_, _, hx, rfl, rfl, rfl, rfl⟩, Nat.le_trans (Nat.le_trans (Nat.le_succ _) (Nat.le_succ _)) z, dne, hns⟩⟩
end
end LowX
end PySem
namespace L2
open PySem PySem.Spec PyProof.Rows
theorem relO_low {v : V} {v' : Value} (r : RelV v v') (f : Str) : RelO (List.lookup f [(("given" : Str), v)]) (if f = "given" then some v' else none) := by
  by_cases hw : f = "given"
  · subst hw
    rw [if_pos rfl]
    have q : List.lookup ("given" : Str) [(("given" : Str), v)] = some v := by simp [List.lookup]
    rw [q]
    exact r
  · rw [if_neg hw]
    have qw : (f == ("given" : Str)) = false := by simpa using hw
    have q2 : List.lookup f [(("given" : Str), v)] = none := by simp [List.lookup, qw]
    rw [q2]
    trivial
section
variable {cn qn : Str} {X : Cx} {C fI : Addr}
/-- Low(e) -/
def tMkLow (C : Addr) (ta : TA) : St → Hp → XK → Prop := fun σ H Q => ta σ H fun vs H1 => ∃ v, vs = [v] ∧ ∀ d, H1 d = none → Q (.ref C) (some d) (upd H1 d (.xd [(("given" : Str), v)]))
theorem pmk_low {a : Expr} {ta : TA} {p pos : Pos} {k : Nat} (T : PySem.LowX.LowTxt cn qn X.K X.mg C fI) (hr : Room k X.A) (ha : PA X [a] ta) (hg : Gl X cn := by rfl) (hdb : (cn == ("__debug__" : Str)) = false := by decide)
    (he : starEach (a :: []) X.env = (false, eval a X.env) :: starEach [] X.env := by rfl) (hpl : (backTo pos (starEach [] X.env)).any (·.1) = false := by rfl) :
    PMk X (.Call (.Name cn p) [a] [] pos) (tMkLow C ta) := by
  intro pins s σ H Q I h
  refine wpAny_Call_Name_kw (ld_glob I hg T.gC ?_ hdb)
  refine PySem.W.callWith_K (h₀ := X.base) I.ok.mod.kin T.kC (thn (ha.run pos pins s σ H _ I h) fun us s1 hh => ?_) he hpl
  obtain ⟨vs, H1, I1, r1, v, ev, q1⟩ := hh
  subst ev
  refine ⟨I1.kIn, ?_⟩
  cases r1 with
  | cons rv rn =>
    rename_i v' us'
    cases rn
    show wpAny _ _ (call (.ref C) [v']) _ _ _
    have hlim := I1.nolimit
    obtain ⟨hp, g, dr, tk, os⟩ := s1
    refine wpAny_call (PySem.LowX.low_made T I1.kIn hlim (by have := hr.dp; omega) fun h' tk' e d M => ?_)
    show MkP X pins σ Q (.ref e) ⟨h', g, dr, tk', os⟩
    obtain ⟨oe, fv, hoe, hc, hd, hdat, h1⟩ := M.obj
    have hns := M.ns
    obtain ⟨G', g1, g2⟩ := restrict h' fun b => decide (b ≠ e)
    have gk : ∀ b, b ≠ e → G'.get? b = h'.get? b := fun b hb => g1 b (decide_eq_true hb)
    have ge : G'.get? e = none := g2 e (by simp)
    have old : ∀ b o, hp.get? b = some o → G'.get? b = some o := fun b o q => (gk b (Nat.ne_of_lt (Nat.lt_of_lt_of_le (Heap.lt_size q) M.new))).trans (M.keep b o q)
    have ob : ObjOk X.prog X.w (upd H1 d (.xd [(("given" : Str), v)])) G' d (.xd [(("given" : Str), v)]) :=
      ⟨_, hns.at (fun o q => (gk d M.dne).trans q), fun f => relO_low rv f⟩
    have J : Inv X pins σ (upd H1 d (.xd [(("given" : Str), v)])) ⟨G', g, dr, tk', os⟩ := I1.laid (t' := tk') old M.dbig ob
    refine ⟨e, oe, fv, ⟨G', g, dr, tk', os⟩, _, .ref C, some d, rfl, J, fun b o q => ?_, ge, hoe, ⟨hc, hd⟩, hdat, h1, ?_, rfl, I1.bare, raises_own T.exC T.tyC, q1 d (I1.hok.fresh M.dbig)⟩
    · by_cases hb : b = e
      · have q' : G'.get? b = some o := q
        rw [hb, ge] at q'; cases q'
      · exact (gk b hb).symm.trans q
    · rw [upd_ne (Ne.symm M.dne)]
      exact I1.hok.fresh M.new
/-- raise Low(e) -/
def tRaiseLow (C : Addr) (W : WX) (ta : TA) : TS := fun _ σ H => tMkLow C ta σ H fun cls d H' => W cls d σ H'
theorem ps_raiseLow {a : Expr} {ta : TA} {W : WX} {p pos pos2 : Pos} {k : Nat} (hc : X.calm = true) (T : PySem.LowX.LowTxt cn qn X.K X.mg C fI) (hr : Room k X.A) (tk : Takes X W) (ha : PA X [a] ta) (hg : Gl X cn := by rfl) (hdb : (cn == ("__debug__" : Str)) = false := by decide)
    (he : starEach (a :: []) X.env = (false, eval a X.env) :: starEach [] X.env := by rfl) (hpl : (backTo pos (starEach [] X.env)).any (·.1) = false := by rfl) :
    PS X (.Raise (some (.Call (.Name cn p) [a] [] pos)) none pos2) (tRaiseLow C W ta) := ps_raise hc tk (pmk_low T hr ha hg hdb he hpl)
/-- low.by, low the exception that the suite holds (at a; its class cls, its dict d) -/
def tByLow (C : Addr) (a : Addr) (cls : Value) (d : Option Addr) (te : TE) : TE := fun σ H Q => te σ H fun x H1 => x = .ref a ∧ cls = .ref C ∧ ∃ (dd : Addr) (v : V), d = some dd ∧ H1 dd = some (.xd [(("given" : Str), v)]) ∧ Q v H1
theorem pe_byLow {a : Addr} {oe : Obj} {cls : Value} {d : Option Addr} {pn : List (Addr × Obj)} {e : Expr} {te : TE} {pos : Pos} (T : PySem.LowX.LowTxt cn qn X.K X.mg C fI) (hz : Zc cls d oe) (hf : ∃ vs, oe.data = .fields vs) (he : PE (X.suite a ((a, oe) :: pn)) e te)
    (hb : attributeBase e "given" X.env (eval e X.env) = eval e X.env := by rfl) :
    PE (X.suite a ((a, oe) :: pn)) (.Attribute e "given" pos) (tByLow C a cls d te) := by
  refine ⟨fun pins s σ H Q I h => ?_⟩
  refine attr_of hb (thn (he.run pins s σ H _ I h) fun u s1 hh => ?_)
  obtain ⟨x, H1, I1, rx, ex, ec, dd, v, ed, ea, q⟩ := hh
  subst ex
  obtain rfl : u = Value.ref a := rx
  subst ec
  subst ed
  obtain ⟨ha, _⟩ := I1.pin (a, oe) (List.mem_append_left _ List.mem_cons_self)
  obtain ⟨vs, hd⟩ := hf
  have hx : ObjOk X.prog X.w H1 s1.heap dd (.xd [(("given" : Str), v)]) := I1.hok dd _ ea
  obtain ⟨mA, hns, hr⟩ := hx
  obtain ⟨od, ho, hl⟩ := lookIn_ns hns
  have l : List.lookup ("given" : Str) [(("given" : Str), v)] = some v := by simp [List.lookup]
  obtain ⟨u, hu, ru⟩ := RelO.some_of (v := v) (o := mA "given") (by rw [← l]; exact hr "given")
  have J : PySem.W.InstAt s1.heap a oe C (some od) := ⟨ha, hz.1, by unfold PySem.W.notCls; rw [hd] <;> rfl, by rw [hz.2]; exact ho⟩
  exact HandSPX.exc_get I1.kIn J T.ga T.gg T.exC (PySem.W.findObj_own T.hdC T.noN rfl (by rw [hl, hu])) (handed_of ru) ⟨v, H1, I1.tok _, ru, q⟩
end
end L2


/-! ## isinstance of a caught error that has a dict of its own -/
namespace Dl
open PySem PySem.W PySem.Spec PySem.Calls PyProof.Rows
section
variable {Pg : Program} {w : World} {A : Around} {E : Value → Shared → Prop} {s : Shared} {F : Frag} {x D : Addr} {ob : Obj} {dd : Option Obj}
theorem find_cls {nm : Str} {a g : Value} (c1 : (clsIn F D).isSome = true) (c2 : findIn F (.ref D) nm = some (some a)) (c3 : specialIn F a "__get__" = some (some g)) (c4 : takesIn F a = some true) : findObj F D dd nm = some (.bind g a) := by
  cases z : clsIn F D with
  | none =>
    rw [z] at c1
    cases c1
  | some cd =>
    unfold findObj
    rw [z, Option.bind_some, c2, Option.bind_some]
    simp [c3, c4]
theorem cls_of_exc {Q : Option Value → Shared → Prop} (C : L2.ExcC F D) (X : F.In s.heap) (I : InstAt s.heap x ob D dd)
    (k : Q (some (.ref D)) { s with toks := s.toks + 1 }) : wpAny (model Pg w) A (getAttr? (.ref x) "__class__") Q E s := by
  have at1 : findObj F D dd "__class__" = some (.bind (.builtin "getset_descriptor.__get__") (.builtin "object.__class__")) := by
    refine find_cls ?_ C.ha C.hn C.ht
    obtain ⟨cd, hc, _⟩ := any_some C.hd
    rw [hc]
    rfl
  obtain ⟨hp, gs, dr, tk, os⟩ := s
  have l0 := I.type (M := model Pg w)
  have l1 := looks_findIn (M := model Pg w) X C.hg
  have l2 := looks_findIn (M := model Pg w) X C.hk
  have l3 := looks_find (M := model Pg w) X I at1
  have isE : Looks (model Pg w) hp (isInstance (.ref x) (.type "BaseException")) true := l0.andThen (looks_subIn X C.hs)
  have n0 : (false && onTheHeap (Value.builtin "BaseException.__getattribute__")) = false := rfl
  have n2 : (Value.builtin "BaseException.__getattribute__" == Value.builtin "object.__getattribute__") = false := by
    decide +kernel
  have n1 : (onTheHeap (Value.ref D) && Value.builtin "BaseException.__getattribute__" == Value.builtin "object.__getattribute__") = false := by
    rw [n2]
    rfl
  unfold getAttr?
  unfold getAttrBy?
  unfold getAttrBy
  refine wpAny_bind (wpAny_mkText (wpAny_bind (wpAny_attempt (wpAny_holding (wpAny_bind (l0.at (wpAny_bind (l1.at ?_))))))))
  show wpAny _ _ (ite ((onTheHeap (Value.ref D) && Value.builtin "BaseException.__getattribute__" == Value.builtin "object.__getattribute__") = true) _ _) _ _ _
  rw [n1, if_neg Bool.false_ne_true]
  unfold getAttrByItsOwn
  unfold hookBefore
  refine wpAny_bind ?_
  rw [if_pos (show onTheHeap (Value.ref D) = true by rfl)]
  refine l2.at (wpAny_bind (wpAny_attempt (wpAny_holding ?_)))
  unfold callGetattribute
  rw [n0, if_neg Bool.false_ne_true]
  unfold boundAndCalled
  rw [PySem.F.excAttr_ValueError.ga.bind (Value.ref x)]
  refine wpAny_bind (wpAny_pure ?_)
  show wpAny _ _ (call (.builtin "BaseException.__getattribute__") [Value.ref x, .str "__class__" tk]) _ _ _
  refine wpAny_call (codeAny_call_builtin PySem.F.excAttr_ValueError.ga.plain PySem.F.entry_bexc_ga ?_)
  refine @check_slot (model Pg w) _ _ ⟨hp, gs, dr, tk + 1, os⟩ "BaseException.__getattribute__" "BaseException" "__getattribute__" (.ref x) [.str "__class__" tk] [] _ (by decide +kernel) (by decide +kernel) isE (PySem.F.args_bexc_ga (.ref x) (.str "__class__" tk)) ?_
  unfold Builtin.«object.__getattribute__»
  refine wpAny_bind (wpAny_of_eq (a := ((Value.ref x : Value), [Value.str "__class__" tk])) (by first | rfl | (simp only [slotArgs]; rfl)) ?_)
  refine wpAny_bind (wpAny_pure (wpAny_bind (l0.at (wpAny_bind (l3.at ?_)))))
  show wpAny _ _ (holding [Value.builtin "object.__class__"] (call (.builtin "getset_descriptor.__get__") [Value.builtin "object.__class__", .ref x, .ref D]) >>= ret) _ _ _
  refine wpAny_bind (wpAny_holding (wpAny_call (class_get (s := ⟨hp, gs, dr, tk + 1, os⟩) (ox := ob) (od := dd) X I C.hm ?_)))
  refine wpAny_pure ?_
  show wpAny _ _ (handedOut (Value.ref D)) _ _ _
  rw [handedOut_of (v := Value.ref D) rfl]
  first
    | exact wpAny_pure (wpAny_pure k)
    | exact wpAny_pure k
    | exact wpAny_pure (wpAny_bind (wpAny_pure (wpAny_pure k)))
theorem kit_exc (C : L2.ExcC F D) : KitX F (.ref x) (.ref D) (fun h => InstAt h x ob D dd) where
  ty := fun _ _ _ I => I.type
  it := fun _ _ X _ => by
    obtain ⟨cd, hc, _⟩ := any_some C.hd
    unfold clsIn at hc
    split at hc
    · rename_i a1 a2 a3 a4 hob
      intro A1 Q1 E1 s1 k1 q1
      unfold isType
      unfold loadHead
      exact wpAny_bind (wpAny_loadPart (k1 _ _ (X _ _ hob)) (wpAny_pure q1))
    · cases hc
  ne := fun h tp b1 b2 b3 b4 X htp => by
    obtain ⟨cd, hc, _⟩ := any_some C.hd
    refine Bool.eq_false_iff.mpr fun q => ?_
    have e := Value.ref.inj (beq_iff_eq.mp q)
    subst e
    unfold clsIn at hc
    split at hc
    · rename_i a1 a2 a3 a4 hob
      cases (X _ _ hob).symm.trans htp
    · cases hc
  ca := fun X I k => cls_of_exc C X I k
end
end Dl
namespace Dl
open PySem PySem.Spec PyProof.Rows L2
/-- isinstance(e, c), e the exception at a, with its own dict -/
theorem call_isD {X : Cx} {a D : Addr} {oe : Obj} {cls : Value} {d : Option Addr} {pn : List (Addr × Obj)} (C : ExcC X.K D) (hz : Zc cls d oe) (hf : ∃ vs, oe.data = .fields vs) :
    CallR (X.suite a ((a, oe) :: pn)) (.builtin "isinstance") (fun vs H Q => ∃ (c : V) (cv : Value) (b : Bool) (dd : Addr) (xs : List (Str × V)), vs = [.ref a, c] ∧ cls = .ref D ∧ d = some dd ∧ H dd = some (.xd xs) ∧ (∀ u, RelV c u → u = cv) ∧ PySem.W.kitOne X.K (.ref D) cv = some b ∧ Q (.bl b) H) := by
  intro pins s σ H vs us Q I r h
  obtain ⟨c, cv, b, dd, xs, rfl, rfl, rfl, hd, hcv, e, q⟩ := h
  obtain ⟨u1, u2, rfl, r1, r2⟩ := vals2 r
  cases r1
  have ec := hcv _ r2
  subst ec
  obtain ⟨hget, _⟩ := I.pin (a, oe) (List.mem_append.mpr (.inl List.mem_cons_self))
  have hx : ObjOk X.prog X.w H s.heap dd (.xd xs) := I.hok dd _ hd
  obtain ⟨mA, hns, _⟩ := hx
  obtain ⟨od, ho, _⟩ := lookIn_ns hns
  have J : PySem.W.InstAt s.heap a oe D (some od) := by
    refine ⟨hget, hz.1, ?_, by rw [hz.2]; exact ho⟩
    obtain ⟨w1, hw⟩ := hf
    unfold PySem.W.notCls
    rw [hw] <;> rfl
  exact PySem.W.kia_one (kit_exc C) I.kIn J e (fun z => nomatch z) fun tk => ⟨.bl b, H, I.kept (t' := tk) fun _ _ z => z, rfl, q⟩
end Dl

/-! ## Defs that raise an error with a number in it; sizes of what repr shows; a list of one's own that is read from now on -/
namespace Dl
open PySem PySem.Spec PyProof.Rows L2

def spX (K : PySem.W.Frag) (C : Addr) (n : Nat) (Pre : List PyData → Prop) (g : List PyData → Option PyData) (gv : List PyData → Int) : Sp := fun vs H Q E =>
  ∃ D ds, Ok Fx.non D H ∧ DqA K D vs ds ∧ ds.length = n ∧ Pre ds ∧ (∀ v D' H' d, Step Fx.non D H D' H' → Dq K D' v d → g ds = some d → Q v H') ∧
    ∀ D' H' dd, Step Fx.non D H D' H' → H' dd = none → g ds = none → E (.ref C) (some dd) (upd H' dd (.xd [(("given" : Str), .int (gv ds))]))
section
variable {P : Program} {w : World} {K : PySem.W.Frag} {mg : Str → Option Value} {base : Heap} {x qual : Str} {st : Stmt} {f : Addr} {fd : FuncData} {N ps : List Str} {k : Nat} {C : Addr} {Pre : List PyData → Prop} {g : List PyData → Option PyData} {gv : List PyData → Int}
theorem ok_X (F : Fun K x qual st f fd) (S : FnScope N ps (defScope st)) (hb : ∀ (cdv : Value) (A : Around) (outer : List PySem.Env) (s : Shared) (H : Hp) (E : XK),
      Room k (A.deeper (envOfC qual (defScope st) s.heap.objs.size f cdv)) → ∀ ds, ds.length = ps.length → Pre ds →
      ∃ t, PSs (cxOf (L2.CX P w) P w K mg base N qual (defScope st) f cdv A outer s H E) (defBody st) t ∧
        StG K Fx.non (fun H => ∀ dd, H dd = none → E (.ref C) (some dd) (upd H dd (.xd [(("given" : Str), .int (gv ds))]))) t (ins N ds) { nx := fun _ => g ds = some .none, rt := fun d => g ds = some d, xr := g ds = none }) :
    FnOk P w K mg base (L2.CX P w) (k + 1) f fd ps (spX K C ps.length Pre g gv) := by
  refine F.okX S (fun vs H Q E h => ?_) (fun cdv A outer s H vs Q E hr h => ?_)
  · obtain ⟨D, ds, _, q, hl, _⟩ := h
    rw [q.len]
    exact hl
  · obtain ⟨D, ds, o, q, hl, p, k, x⟩ := h
    obtain ⟨t, ht, hg⟩ := hb cdv A outer s H E hr ds hl p
    refine ⟨t, ht, hg.run (env_start o q ?_) k fun D' H' s z dd hd => x D' H' dd s hd z⟩
    have hp : ps.length ≤ N.length := by
      have := congrArg List.length S.pre
      rw [List.length_take] at this
      omega
    omega
end
section
variable {K : PySem.W.Frag} {W : Fx} {EX : Hp → Prop} {ρ : List Sk} {P P1 P2 : PyData → Prop} {te ta tb : TE} {ds : List PyData} {tr : TS} {O : Out} {PA : List PyData → Prop} {C : Addr} {n : Nat} {Pre : List PyData → Prop} {g : List PyData → Option PyData} {gv : List PyData → Int}
theorem ev_callXN {ta : TA} {E : XK} {d : PyData} (h : EvA K W ta ρ (· = ds)) (hl : ds.length = n) (hp : Pre ds) (hq : g ds = some d) : EvD K W (tCall (spX K C n Pre g gv) [] E ta) ρ d := fun D0 H0 D H σ e Q q =>
  h D0 H0 D H σ e _ fun vs D1 H1 ds s1 q1 p1 => by
    subst p1
    have o1 := s1.ok e.ok
    rw [List.append_nil]
    refine ⟨D1, _, o1.non, q1, hl, hp, fun v D' H' d' s2 q2 p2 => ?_, fun D' H' dd s2 _ p2 => ?_⟩
    · rw [hq] at p2
      cases p2
      exact q v D' H' d (s1.trans e.ok (.lift o1 s2)) q2 rfl
    · rw [hq] at p2
      cases p2
theorem st_raiseX {E : XK} {i : Int} (h : EvD K W te ρ (.int i)) (hx : O.xr) : StG K W (fun H => ∀ dd, H dd = none → E (.ref C) (some dd) (upd H dd (.xd [(("given" : Str), .int i)]))) (tSeq (tRaiseLow C (fun cls d _ H => E cls d H) (tCons te tNil)) tr) ρ O := fun D0 H0 D H σ Dn e _ _ _ _ kx =>
  h D0 H0 D H σ e _ fun v D1 H1 d s1 q1 p1 => by
    subst p1
    cases q1
    exact ⟨_, rfl, fun dd hd => kx D1 H1 (e.st.trans e.ok0 s1) hx dd hd⟩

/-! a list of one's own is read from now on -/
theorem st_freeze {ts : TS} {i : Nat} (hρ : ρ[i]? = some (.own ds)) (k : StG K W EX ts (ρ.set i (.dat (.list ds))) O) : StG K W EX ts ρ O := fun D0 H0 D H σ Dn e kn kb kc kr kx => by
  obtain ⟨o, q1, l, xs, q2, h3, h4, h5, h6, h7⟩ := e.slot i _ hρ
  subst q2
  have hi : i < ρ.length := (List.getElem?_eq_some_iff.mp hρ).1
  have gr : Same D (upd D l (.lst xs)) := same_new h3
  have e2 : Env K W D0 H0 (upd D l (.lst xs)) H σ (ρ.set i (.dat (.list ds))) := by
    refine ⟨e.ok0, e.st.told h4 h3 h6, fun j sk hj => ?_, fun a b m sh th es fs h1 h2 h3' h4' => ?_⟩
    · by_cases hij : i = j
      · subst hij
        rw [List.getElem?_set_self hi] at hj
        cases hj
        exact ⟨_, q1, .ref l, rfl, .lst (Or.inl (Or.inl upd_same)) (h7.up gr)⟩
      · rw [List.getElem?_set_ne hij] at hj
        obtain ⟨o, p1, p2⟩ := e.slot j sk hj
        refine ⟨o, p1, ?_⟩
        cases sk with
        | any => trivial
        | rt => exact p2
        | dat d =>
          obtain ⟨v, z, q⟩ := p2
          exact ⟨v, z, q.up gr⟩
        | ob sh es =>
          obtain ⟨m, ys, e1, r1, r2, r3, r4, r5⟩ := p2
          subst e1
          have hm : m ≠ l := fun z => hij (e.dist i j l _ sh ds es hρ hj q1 (by rw [← z]; exact p1))
          exact ⟨m, ys, rfl, by rw [upd_ne hm]; exact r1, r2, r3, r4, r5.up gr⟩
        | dd f =>
          obtain ⟨a, kvs, z, r1, r2⟩ := p2
          exact ⟨a, kvs, z, gr a _ r1, fun k => (r2 k).imp id fun ⟨v, d, c1, c2, c3⟩ => ⟨v, d, c1, c2, c3.up gr⟩⟩
    · have own_of : ∀ (j : Nat) sh fs, (ρ.set i (.dat (.list ds)))[j]? = some (.ob sh fs) → ρ[j]? = some (.ob sh fs) := fun j sh fs h => by
        by_cases hij : i = j
        · subst hij
          rw [List.getElem?_set_self hi] at h
          cases h
        · rw [List.getElem?_set_ne hij] at h
          exact h
      exact e.dist a b m sh th es fs (own_of a _ _ h1) (own_of b _ _ h2) h3' h4'
  exact k D0 H0 _ H σ Dn e2 (fun a b c x g2 => kn a b c x (gr.trans g2)) (fun a b c x g2 => kb a b c x (gr.trans g2)) (fun a b c x g2 => kc a b c x (gr.trans g2)) kr kx
end

/-! ### what repr shows -/
structure Sm (w p : Nat) (d : PyData) : Prop where
  a : d.showable = true
  b : d.hasDict = false
  c : d.depth ≤ p
  e : d.shown.length ≤ w
theorem Sm.le {w w' p p' : Nat} {d : PyData} (h : Sm w p d) (hw : w ≤ w') (hp : p ≤ p') : Sm w' p' d := ⟨h.a, h.b, Nat.le_trans h.c hp, Nat.le_trans h.e hw⟩
theorem Sm.none : Sm 4 1 .none := ⟨by simp [PyData.showable], by simp [PyData.hasDict], by simp [PyData.depth], by rw [PyData.shown_none]; exact (by decide +kernel)⟩
theorem Sm.bool (b : Bool) : Sm 5 1 (.bool b) := ⟨by simp [PyData.showable], by simp [PyData.hasDict], by simp [PyData.depth], by rw [PyData.shown_bool]; cases b <;> exact (by decide +kernel)⟩
theorem Sm.int {i : Int} {k : Nat} (hk : 0 < k) (h : i.natAbs < 10 ^ k) (hs : k ≤ 70) : Sm (k + 1) 1 (.int i) := by
  have h2 : i.natAbs.log2 < 1920 := by
    by_cases h3 : i.natAbs = 0
    · rw [h3]; decide
    · refine (Nat.log2_lt h3).mpr (Nat.lt_of_lt_of_le h ?_)
      calc 10 ^ k ≤ 10 ^ 70 := Nat.pow_le_pow_right (by decide) hs
        _ ≤ 2 ^ 240 := by decide
        _ ≤ 2 ^ 1920 := Nat.pow_le_pow_right (by decide) (by decide)
  refine ⟨by simp only [PyData.showable]; exact decide_eq_true h2, by simp [PyData.hasDict], by simp [PyData.depth], ?_⟩
  rw [PyData.shown_int]
  have := PySem.int_text_length_le10 hk h
  rw [PyProof.Rows.ofString_len]
  exact this
theorem Sm.str {z : Str} {n : Nat} (hz : z.length ≤ n) (hc : ∀ c ∈ z.cps.toList, c < 16 ^ 8) : Sm (10 * n + 2) 1 (.str z) := by
  refine ⟨by simp [PyData.showable], by simp [PyData.hasDict], by simp [PyData.depth], ?_⟩
  rw [PyData.shown_str]
  have := PySem.StrLaws.reprText_len z hc
  omega
theorem join_le {w : Nat} : ∀ (ts : List Str), (∀ t ∈ ts, t.length ≤ w) → (Str.join ", " ts).length ≤ ts.length * (w + 2)
  | [], _ => Nat.zero_le _
  | [t], h => by
    show t.length ≤ _
    have := h t List.mem_cons_self
    simp
    omega
  | t :: u :: r, h => by
    have e : Str.join ", " (t :: u :: r) = t ++ Str.ofString ", " ++ Str.join ", " (u :: r) := rfl
    have h1 := h t List.mem_cons_self
    have h2 := join_le (u :: r) fun x hx => h x (List.mem_cons_of_mem _ hx)
    have h3 : (Str.ofString ", ").length = 2 := by decide +kernel
    rw [e, Str.length_append, Str.length_append, h3, List.length_cons, Nat.succ_mul]
    omega
theorem shownAll_map : ∀ ds : List PyData, PyData.shownAll ds = ds.map PyData.shown
  | [] => by rw [PyData.shownAll_nil]; rfl
  | d :: ds => by rw [PyData.shownAll_cons, shownAll_map ds]; rfl
theorem all_sm {w p : Nat} : ∀ (ds : List PyData), (∀ d ∈ ds, Sm w p d) → PyData.showableAll ds = true ∧ PyData.hasDictAll ds = false ∧ PyData.depthAll ds ≤ p
  | [], _ => by simp [PyData.showableAll, PyData.hasDictAll, PyData.depthAll]
  | d :: ds, h => by
    obtain ⟨h1, h2, h3⟩ := all_sm ds fun x hx => h x (List.mem_cons_of_mem _ hx)
    have h4 := h d List.mem_cons_self
    refine ⟨by simp [PyData.showableAll, h4.a, h1], by simp [PyData.hasDictAll, h4.b, h2], ?_⟩
    have := h4.c
    simp only [PyData.depthAll]
    omega
theorem Sm.list {w p n : Nat} {ds : List PyData} (h : ∀ d ∈ ds, Sm w p d) (hn : ds.length ≤ n) : Sm (4 + n * (w + 2)) (p + 1) (.list ds) := by
  obtain ⟨h1, h2, h3⟩ := all_sm ds h
  refine ⟨by simp only [PyData.showable]; exact h1, by simp only [PyData.hasDict]; exact h2, by simp only [PyData.depth]; omega, ?_⟩
  rw [PyData.shown_list, shownAll_map]
  have h4 := join_le (w := w) (ds.map PyData.shown) fun t ht => by
    obtain ⟨d, hd, e⟩ := List.mem_map.mp ht
    rw [← e]
    exact (h d hd).e
  have h5 : (Str.ofString "[").length = 1 := by decide +kernel
  have h6 : (Str.ofString "]").length = 1 := by decide +kernel
  rw [Str.length_append, Str.length_append, h5, h6]
  rw [List.length_map] at h4
  have h7 : ds.length * (w + 2) ≤ n * (w + 2) := Nat.mul_le_mul_right _ hn
  omega
theorem Sm.tuple {w p n : Nat} {ds : List PyData} (h : ∀ d ∈ ds, Sm w p d) (hn : ds.length ≤ n) : Sm (4 + n * (w + 2)) (p + 1) (.tuple ds) := by
  obtain ⟨h1, h2, h3⟩ := all_sm ds h
  refine ⟨by simp only [PyData.showable]; exact h1, by simp only [PyData.hasDict]; exact h2, by simp only [PyData.depth]; omega, ?_⟩
  rw [PyData.shown_tuple, shownAll_map]
  have h4 := join_le (w := w) (ds.map PyData.shown) fun t ht => by
    obtain ⟨d, hd, e⟩ := List.mem_map.mp ht
    rw [← e]
    exact (h d hd).e
  have h5 : (Str.ofString "(").length = 1 := by decide +kernel
  have h6 : (Str.ofString (if (ds.length == 1) = true then ",)" else ")")).length ≤ 2 := by
    split
    · exact (by decide +kernel)
    · exact (by decide +kernel)
  rw [Str.length_append, Str.length_append, h5]
  rw [List.length_map] at h4
  have h7 : ds.length * (w + 2) ≤ n * (w + 2) := Nat.mul_le_mul_right _ hn
  omega
theorem rc_reprS {K : PySem.W.Frag} {W : Fx} {d : PyData} {w p : Nat} (h : Sm w p d) (hp : p ≤ 60) (hw : w ≤ 16777216) : RC K W (rRepr K) [d] (· = .str d.shown) :=
  rc_repr h.a h.b (Nat.le_trans h.c hp) (by rw [sizeLine_eq]; exact Nat.le_trans h.e hw)

section
variable {K : PySem.W.Frag} {W : Fx} {ρ : List Sk} {te : TE} {ds : List PyData}
/-- range(n), n not told -/
theorem ei_rngN {lo hi : Int} (h : EvN K W te ρ (isI lo hi)) (h0 : 0 ≤ lo) (h1 : hi ≤ 100000) : EvI K W (iRng1 (tCons te tNil)) ρ (fun ds => ∃ n : Nat, ds = ups 0 n ∧ lo ≤ (n : Int) ∧ (n : Int) < hi) := fun D0 H0 D H σ e R k =>
  h D0 H0 D H σ e _ fun v D1 H1 d s1 q1 ⟨i, e1, h2, h3⟩ => by
    subst e1
    cases q1
    refine ⟨i, rfl, by omega, by omega, k _ D1 H1 _ s1 .rng ⟨i.toNat, rfl, by omega, by omega⟩⟩
end

section
variable {K : PySem.W.Frag} {W : Fx} {ρ : List Sk} {P : PyData → Prop}
theorem ev_kwN2 {Pre : List PyData → Prop} {Post : List PyData → PyData → Prop} {ta : TA} {E : L2.St → XK} {d1 d2 : PyData} (h : EvA K W ta ρ (· = [d1, d2])) (hp : Pre [d2, d1]) (hq : ∀ d, Post [d2, d1] d → P d) :
    EvN K W (tKw 2 (fun {α} => g2) (spN K 2 Pre Post) E ta) ρ P := fun D0 H0 D H σ e Q q =>
  h D0 H0 D H σ e _ fun vs D1 H1 ds s1 q1 p1 => by
    subst p1
    have o1 := s1.ok e.ok
    cases q1 with
    | cons a1 q1 =>
      cases q1 with
      | cons a2 q1 =>
        cases q1
        refine ⟨rfl, D1, [d2, d1], o1.non, .cons a2 (.cons a1 .nil), rfl, hp, fun v D' H' d s2 q2 p2 => ?_⟩
        exact q v D' H' d (s1.trans e.ok (.lift o1 s2)) q2 (hq d p2)
end
end Dl

/-! ## set(a list of ints), in the shape that sorted asks for -/
namespace Dl
open PySem PySem.Spec PyProof.Rows L2

/-- what the first i values leave in the set at S -/
def Heaped (w : World) (h : Heap) (S : Addr) (val : Nat → Int) (i : Nat) : Prop := ∃ (f : Int → Bool) (c : Nat), SetR w h S f c ∧ (∀ k, f k = true ↔ ∃ j, j < i ∧ val j = k) ∧ c ≤ i

section
variable {Pg : Program} {w : World} {A : Around} {R : Result → Shared → Prop} {I : Addr} {fp wr : List Addr} {G : Array GenState → Array GenState → Prop} {n : Nat} {Pv : Nat → Value → Prop} {St : Nat → Shared → Prop}
theorem heap_loop (W : WalksS Pg w A.in1 I fp wr G n Pv St) (S : Addr) (out : S ∉ fp) (val : Nat → Int) (isV : ∀ i v, Pv i v → ∃ t, v = .int (val i) t) (room : n + 1 < scanBound) :
    ∀ (m i : Nat) (s : Shared), n - i = m → i ≤ n → St i s → Heaped w s.heap S val i → (∀ s', Moved (S :: wr) G s s' → Heaped w s'.heap S val n → R (.ok (.ret .none)) s') →
      codeAny (model Pg w) A (.builtin "set.update.loop" ⟨[.ref S, .ref I], []⟩) R s := by
  have nw : S ∉ wr := fun h => out (W.sub _ h)
  have up : ∀ b ∈ wr, b ∈ S :: wr := fun b hb => List.mem_cons_of_mem _ hb
  have moved : ∀ {s s' : Shared} {i : Nat}, Moved wr G s s' → Heaped w s.heap S val i → Heaped w s'.heap S val i := fun hm ⟨f, c, r, q⟩ => ⟨f, c, r.at fun o e => hm.heap S o nw e, q⟩
  intro m
  induction m with
  | zero =>
    intro i s hm hi st hS k
    obtain rfl : i = n := by omega
    refine codeAny_builtin F.entry_set_update_loop ?_
    rw [Around.under_plainId F.plain_set_update_loop _]
    show wpAny _ A.in1 (pyNext (Value.ref I) >>= _) _ _ s
    refine wpAny_bind (W.done s _ _ st fun s' mv => ?_)
    show wpAny _ A.in1 (ret Value.none) _ _ s'
    exact wpAny_pure (k s' (mv.mono up) (moved mv hS))
  | succ m ih =>
    intro i s hm hi st hS k
    have lt : i < n := by omega
    refine codeAny_builtin F.entry_set_update_loop ?_
    rw [Around.under_plainId F.plain_set_update_loop _]
    show wpAny _ A.in1 (pyNext (Value.ref I) >>= _) _ _ s
    refine wpAny_bind (W.item i s _ _ lt st fun v s' hv st' mv => ?_)
    obtain ⟨t, rfl⟩ := isV i v hv
    obtain ⟨f, c, r, hf, hc⟩ := moved mv hS
    show wpAny _ A.in1 (holding [Value.int (val i) t] (setAdd S (.int (val i) t)) >>= _) _ _ s'
    refine wpAny_bind (wpAny_holding ?_)
    unfold setAdd
    refine wpAny_holding (wpAny_bind ((intKind Pg w).pyHash (k := val i) (intKind_is Pg w (val i) t) ?_))
    refine setR_add_hashed (s := { s' with toks := s'.toks + 1 }) r (by omega) fun h2 sb r2 => ?_
    have here : Heaped w h2 S val (i + 1) := by
      refine ⟨_, _, r2, fun k => ?_, ?_⟩
      · rw [Bool.or_eq_true, decide_eq_true_eq, hf k]
        constructor
        · rintro (⟨j, hj, e⟩ | e)
          · exact ⟨j, by omega, e⟩
          · exact ⟨i, by omega, e.symm⟩
        · rintro ⟨j, hj, e⟩
          by_cases hji : j = i
          · subst hji
            exact Or.inr e.symm
          · exact Or.inl ⟨j, by omega, e⟩
      · split <;> omega
    have keepFp : ∀ b ∈ fp, ∀ o, s'.heap.get? b = some o → h2.get? b = some o := fun b hb o e => by
      rw [sb.2 b (fun z => out (by rw [← z]; exact hb))]
      exact e
    refine wpAny_pure ⟨plainId_quiet F.plain_set_update_loop _, ih (i + 1) _ (by omega) lt (W.frame _ s' _ _ st' (Nat.le_succ _) keepFp) here fun s'' mv2 hS2 => ?_⟩
    refine k s'' (Moved.trans W.gtrans ((mv.mono up).then_heap (Nat.le_succ _) fun b o hb e => ?_) mv2) hS2
    rw [sb.2 b (fun z => hb (by rw [z]; exact List.mem_cons_self))]
    exact e
end

section
variable {Pg : Program} {w : World} {A : Around} {E : Value → Shared → Prop} {s : Shared}
theorem led_new1 (v : Value) {Q1 : Value → Shared → Prop}
    (k : Q1 (.ref s.heap.objs.size) { s with heap := s.heap.push { cls := .type "set", dict := none, data := .set #[] 0 (.fresh 0 0 (!w.params.followText "set-order")) } }) :
    codeAny (model Pg w) A (.call (.builtin "set.__new__") ⟨[.type "set", v], []⟩) (wants Q1 E) s := by
  refine codeAny_of_tree ?_
  show wpAny _ A.in1 (do checkBuiltinCall "set.__new__" ⟨[Value.type "set", v], []⟩; again (.builtin "set.__new__" ⟨[Value.type "set", v], []⟩)) _ _ s
  refine wpAny_bind (wpAny_of_eq (F.newCall_set_1 v) (wpAny_pure ⟨plainId_quiet F.plain_set_new _, codeAny_builtin F.entry_set_new ?_⟩))
  rw [Around.under_plainId F.plain_set_new _]
  unfold Builtin.«set.__new__»
  unfold Builtin.Frozenset.newClass
  have sub0 := sub_set_self
  obtain ⟨hp, gs, dr, tk, os⟩ := s
  dsimp only
  wp_walk
  refine wpAny_askSetting (wpAny_pure ?_)
  dsimp only
  simp only [newObj]
  exact wpAny_bind (wpAny_alloc (wpAny_pure (wpAny_pure k)))

set_option maxHeartbeats 3200000 in
theorem call_set_ints {l : Addr} {items : Array Value} {ns : List Int} {Q : Value → Shared → Prop} (hh : A.handled = none) (hl : s.heap.IsList l items) (hi : PyProof.Rows.IntsAre items.toList ns) (room : items.size + 1 < scanBound)
    (k : ∀ (g : Heap) (tk : Nat), Heaped w g s.heap.objs.size (fun i => ns.getD i 0) items.size → (∀ b o, b < s.heap.objs.size → s.heap.get? b = some o → g.get? b = some o) → Q (.ref s.heap.objs.size) { s with heap := g, toks := tk }) :
    wpAny (model Pg w) A (call (.type "set") [.ref l]) Q E s := by
  obtain ⟨c, tl, hmro⟩ := F.called_set.mro
  have m1 := F.called_set.made
  have m2 := F.called_set.sub
  refine wpAny_call (codeAny_of_tree ?_)
  show wpAny _ _ (callAny (Value.type "set") _) _ _ _
  refine wpAny_pure ⟨Code.quiet_builtin _ (by decide +kernel), codeAny_builtin F.entry_type_call ?_⟩
  rw [Around.under_plain (weight_type_call_type "set" [Value.ref l] []) rfl]
  have m3 := F.called_set.notType
  have m4 := F.called_set.canCreate
  have m5 := F.typeCall_set_1 (Value.ref l)
  repeat (any_goals (first | assumption | wp_step))
  generalize hfr : (s.heap.push { cls := .type "set", dict := none, data := .set #[] 0 (.fresh 0 0 (!w.params.followText "set-order")) }) = hp0
  have fresh0 : SetR w hp0 s.heap.objs.size (fun _ => false) 0 := by
    rw [← hfr]
    exact setR_fresh w
  have get0 : hp0.get? s.heap.objs.size = some { cls := .type "set", dict := none, data := .set #[] 0 (.fresh 0 0 (!w.params.followText "set-order")) } := by
    rw [← hfr]
    exact Heap.get?_push_size _ rfl
  have old0 : ∀ b o, s.heap.get? b = some o → hp0.get? b = some o := fun b o e => by
    rw [← hfr]
    exact Heap.get?_push_of_some _ e
  have size0 : hp0.objs.size = s.heap.objs.size + 1 := by
    rw [← hfr]
    exact Heap.size_push ..
  refine codeAny_mono (led_new1 (Value.ref l) (E := E) (Q1 := fun obj s1 => obj = .ref s.heap.objs.size ∧ s1 = { s with heap := hp0 }) ⟨rfl, by rw [hfr]⟩) fun r s1 hr => ?_
  cases r with
  | error e => exact hr
  | ok fl =>
    cases fl with
    | ret obj =>
      obtain ⟨rfl, rfl⟩ := hr
      have hT : Shared.TypeIs { s with heap := hp0 } (.ref s.heap.objs.size) "set" := ⟨_, get0, rfl⟩
      have i1 := F.called_set.init.lookup
      have i2 := F.called_set.init.bind (Value.ref s.heap.objs.size)
      repeat (any_goals (first | assumption | wp_step))
      refine codeAny_mono (codeAny_call_builtin (R := wants (fun r s2 => r = .none ∧ ∃ g tk, s2 = { s with heap := g, toks := tk } ∧ Heaped w g s.heap.objs.size (fun i => ns.getD i 0) items.size ∧
          (∀ b o, b < s.heap.objs.size → s.heap.get? b = some o → g.get? b = some o)) E) F.called_set.init.plain F.entry_set_init (check_set_init_1 hT ?_)) fun r2 s2 hr2 => ?_
      · obtain ⟨ol, hol, hcl, nl, hdl⟩ := hl
        obtain ⟨ocls, odict, odata, oslots⟩ := ol
        simp only at hcl hdl
        subst hcl
        subst hdl
        have hol' : hp0.get? l = some { cls := .type "list", dict := odict, data := .seq items nl, slots := oslots } := old0 _ _ hol
        have q1 := F.sub_list_set
        have q2 := F.sub_list_frozenset
        have q3 : (Value.type "list" == Value.type "dict") = false := by decide
        have isL : hp0.IsList l items := ⟨_, hol', rfl, nl, rfl⟩
        unfold Builtin.«set.__init__»
        unfold noKeywords
        unfold Builtin.Frozenset.updateFrom
        generalize hPI : pyIter = PI
        wp_walk
        subst hPI
        refine wpAny_pyIter_list isL (wpAny_bind (wpAny_runValue ?_))
        have lS : l < s.heap.objs.size := Heap.lt_size hol
        have h3 : A.in1.in1.in1.handled = none := by simp [hh]
        have apart : l ≠ hp0.objs.size := by
          rw [size0]
          exact Nat.ne_of_lt (Nat.lt_succ_of_lt lS)
        have outS : s.heap.objs.size ∉ [hp0.objs.size, l] := by
          rw [size0]
          simp only [List.mem_cons, List.not_mem_nil, or_false, not_or]
          exact ⟨Nat.ne_of_lt (Nat.lt_succ_self _), Nat.ne_of_gt lS⟩
        have isV : ∀ (i : Nat) (v : Value), items[i]? = some v → ∃ t, v = .int ((fun i => ns.getD i 0) i) t := fun i v hv => IntsAre.int_at hi i v (by rw [Array.getElem?_toList]; exact hv)
        refine heap_loop ((PySem.Walks.list h3 _ l apart items).toS) s.heap.objs.size outS (fun i => ns.getD i 0) isV room (items.size - 0) 0 _ (by omega) (Nat.zero_le _) ⟨⟨_, Heap.get?_push_size _ rfl, rfl, rfl⟩, isL.push _⟩ ?_ ?_
        · refine ⟨fun _ => false, 0, fresh0.at fun o e => Heap.get?_push_of_some _ e, fun k => ?_, Nat.le_refl 0⟩
          constructor
          · intro z
            cases z
          · rintro ⟨j, hj, _⟩
            omega
        · intro s' hm hS'
          obtain ⟨g, gs, dr, tk, os⟩ := s'
          have e1 : gs = s.gens := hm.gens
          have e2 : dr = s.drawn := hm.drawn
          have e3 : os = s.os := hm.os
          subst e1
          subst e2
          subst e3
          show wpAny _ _ _ _ _ _
          refine wpAny_pure ?_
          show wpAny _ _ (ret Value.none) _ _ _
          refine wpAny_pure ⟨rfl, g, tk, rfl, hS', fun b o hb e => ?_⟩
          refine hm.heap b o ?_ (Heap.get?_push_of_some _ (old0 b o e))
          simp only [List.mem_cons, List.not_mem_nil, or_false, not_or]
          exact ⟨Nat.ne_of_lt hb, by rw [size0]; exact Nat.ne_of_lt (Nat.lt_succ_of_lt hb)⟩
      · cases r2 with
        | error e => exact hr2
        | ok fl2 =>
          cases fl2 with
          | ret r =>
            obtain ⟨rfl, g, tk, rfl, hS', hk'⟩ := hr2
            repeat (any_goals (first | assumption | wp_step))
            exact k _ _ hS' hk'
          | _ => exact hr2.elim
    | _ => exact hr.elim
end

/-- set(xs), xs a list of ints -/
def rSetI (K : PySem.W.Frag) (w : World) : List V → Hp → VK → Prop := fun xs H Q => ∃ (l : Addr) (ns : List Int), xs = [.ref l] ∧ SqL K H l (ns.map V.int) ∧ ns.length ≤ 4000 ∧
  ∀ (p : Addr) (f : Int → Bool) (c : Nat), H p = none → (∀ k, f k = true ↔ k ∈ ns) → c ≤ ns.length → Q (.ref p) (upd H p (SetO w p f c))
theorem call_setI {X : Cx} (hc : X.calm = true) : CallR X (.type "set") (rSetI X.K X.w) := by
  intro pins s σ H xs us Q I r h
  obtain ⟨l, ns, rfl, hq, hz, q⟩ := h
  obtain ⟨u, rfl, ru⟩ := vals1 r
  cases ru
  obtain ⟨its, rv, pl, _⟩ := I.list hq
  have len : its.toArray.size = ns.length := by rw [List.size_toArray, ← rv.length, List.length_map]
  refine call_set_ints (I.ok.hd hc) pl.isList (ns := ns) (by simpa using intsAre_of rv) (by rw [len]; unfold scanBound; omega) fun g tk hS hk => ?_
  obtain ⟨f, c, rS, hf, hcl⟩ := hS
  have J : Inv X pins σ (upd H s.heap.objs.size (SetO X.w s.heap.objs.size f c)) { s with heap := g, toks := tk } := I.laid (t' := tk) (fun b o e => hk b o (Heap.lt_size e) e) (Nat.le_refl _) (setO_new rS)
  refine ⟨.ref s.heap.objs.size, _, J, rfl, q _ f c (I.hok.fresh (Nat.le_refl _)) (fun k => ?_) (by rw [← len]; exact hcl)⟩
  rw [hf k, len]
  constructor
  · rintro ⟨j, hj, e⟩
    rw [← e]
    show ns.getD j 0 ∈ ns
    rw [List.getD_eq_getElem?_getD, List.getElem?_eq_getElem hj]
    exact List.getElem_mem hj
  · intro hk
    obtain ⟨j, hj, e⟩ := List.getElem_of_mem hk
    exact ⟨j, hj, by show ns.getD j 0 = k; rw [List.getD_eq_getElem?_getD, List.getElem?_eq_getElem hj]; exact e⟩
end Dl

/-! ## sum(lists, []) -/
namespace Dl
open PySem PySem.Spec PyProof.Rows L2

theorem sum_args2 (a b : Value) : argsOk "sum" ⟨[a, b], []⟩ := by
  unfold argsOk
  kernel_rfl
theorem lst_str : isSubtype (.type "list") (.type "str") = pure false := by
  rw [isSubtype_type]
  kernel_rfl
theorem lst_bytes : isSubtype (.type "list") (.type "bytes") = pure false := by
  rw [isSubtype_type]
  kernel_rfl
theorem lst_bytearray : isSubtype (.type "list") (.type "bytearray") = pure false := by
  rw [isSubtype_type]
  kernel_rfl

/-- the lists ahead of the i-th, one behind the other -/
def ahead {α : Type} (xs : List (List α)) (i : Nat) : List α := (xs.take i).flatten
theorem ahead_succ {α : Type} {xs : List (List α)} {i : Nat} {x : List α} (h : xs[i]? = some x) : ahead xs (i + 1) = ahead xs i ++ x := by
  unfold ahead
  rw [List.take_add_one, h]
  simp
theorem ahead_all {α : Type} (xs : List (List α)) : ahead xs xs.length = xs.flatten := by
  unfold ahead
  rw [List.take_length]
theorem ahead_le {α : Type} (xs : List (List α)) (i : Nat) : (ahead xs i).length ≤ xs.flatten.length := by
  have := congrArg List.flatten (List.take_append_drop i xs)
  rw [List.flatten_append] at this
  have h2 := congrArg List.length this
  rw [List.length_append] at h2
  unfold ahead
  omega
/-- a list as the machine lays it -/
def LstAt (h : Heap) (a : Addr) (xs : List Value) : Prop := ∃ o, h.get? a = some o ∧ o.cls = .type "list" ∧ ∃ n, o.data = .seq xs.toArray n
theorem LstAt.up {h h' : Heap} {a : Addr} {xs : List Value} (l : LstAt h a xs) (k : ∀ o, h.get? a = some o → h'.get? a = some o) : LstAt h' a xs := by
  obtain ⟨o, e, r⟩ := l
  exact ⟨o, k o e, r⟩
/-- .. as a new list lies -/
def LstEx (h : Heap) (a : Addr) (xs : List Value) : Prop := ∃ n, h.get? a = some { cls := .type "list", dict := none, data := .seq xs.toArray n, slots := #[] }
theorem LstEx.at {h : Heap} {a : Addr} {xs : List Value} (l : LstEx h a xs) : LstAt h a xs := by
  obtain ⟨n, e⟩ := l
  exact ⟨_, e, rfl, n, rfl⟩
theorem add_at {pr : Program} {w : World} {A : Around} {s : Shared} {E : Value → Shared → Prop} {l b : Addr} {xs ys : List Value} {Q : Value → Shared → Prop} (hl : LstAt s.heap l xs) (hb : LstAt s.heap b ys) (hsz : xs.toArray.size + ys.toArray.size ≤ sizeLine)
    (h : Q (.ref s.heap.objs.size) { s with heap := s.heap.push { cls := .type "list", data := .seq (xs.toArray ++ ys.toArray) } }) : wpAny (model pr w) A (binaryOp .Add (.ref l) (.ref b)) Q E s := by
  obtain ⟨⟨cls, dd, data, sl⟩, ho, hc, n, hd⟩ := hl
  obtain ⟨⟨cls2, dd2, data2, sl2⟩, ho2, hc2, n2, hd2⟩ := hb
  simp only at hc hd hc2 hd2
  subst hc hd hc2 hd2
  exact concat_meets ⟨_, ho, rfl⟩ ⟨_, ho2, rfl⟩ noFill_list_add seq_list_add PySem.F.slot_list_add PySem.F.entry_list_add (PySem.F.args_list_add_2 _ _) (list_addW l b _ _ n n2 dd dd2 sl sl2 hsz) ⟨ho, ho2, h⟩
section
variable {Pg : Program} {w : World} {A : Around} {R : Result → Shared → Prop} {I : Addr} {fp wr : List Addr} {G : Array GenState → Array GenState → Prop} {Pv : Nat → Value → Prop} {St : Nat → Shared → Prop}
theorem sum_lists (as : List Addr) (xs : List (List Value)) (len : as.length = xs.length) (W : WalksS Pg w A.in1 I fp wr G as.length Pv St) (isV : ∀ i v, Pv i v → ∃ a, as[i]? = some a ∧ v = .ref a) (S : Addr) (out : S ∉ fp) (room : xs.flatten.length ≤ sizeLine)
    (N : Nat) (notW : ∀ a ∈ as, a ∉ wr ∧ a ≠ S) (hwr : ∀ b ∈ wr, b = I) (hNI : N ≤ I) (live : ∀ i s, St i s → I < s.heap.objs.size) :
    ∀ (m i : Nat) (s : Shared) (T : Addr) (c : Nat), as.length - i = m → i ≤ as.length → St i s → T ∉ wr → T ≠ S → (0 < i → N ≤ T ∧ LstEx s.heap T (ahead xs i)) → (∀ (j : Nat) a x, as[j]? = some a → xs[j]? = some x → LstAt s.heap a x) →
      LstAt s.heap T (ahead xs i) → s.heap.get? S = some { cls := .type "list", dict := none, data := .seq #[.ref T] c, slots := #[] } →
      (∀ s' T', Moved (S :: wr) G s s' → (0 < as.length → N ≤ T' ∧ LstEx s'.heap T' xs.flatten) → R (.ok (.ret (.ref T'))) s') →
      codeAny (model Pg w) A (.builtin "sum.loop" ⟨[.ref I, .ref S, rawInt 2, rawInt 0], []⟩) R s := by
  have nw : S ∉ wr := fun h => out (W.sub _ h)
  have up : ∀ b ∈ wr, b ∈ S :: wr := fun b hb => List.mem_cons_of_mem _ hb
  intro m
  induction m with
  | zero =>
    intro i s T c hm hi st hTw hTS hT1 hls hT hSl k
    obtain rfl : i = as.length := by omega
    refine codeAny_builtin F.entry_sum_loop ?_
    rw [Around.under_plainId F.plain_sum_loop _]
    show wpAny _ A.in1 (seqItems? (Value.ref S) >>= _) _ _ s
    refine wpAny_bind (wpAny_seqItems hSl rfl ?_)
    show wpAny _ A.in1 (tryCatch (pyNext (Value.ref I)) _ >>= _) _ _ s
    refine wpAny_bind (wpAny_tryCatch (W.done s _ _ st fun s' mv => ?_))
    refine wpAny_pure (k s' T (mv.mono up) fun z => ⟨(hT1 z).1, ?_⟩)
    obtain ⟨n0, e⟩ := (hT1 z).2
    rw [← ahead_all xs, ← len]
    exact ⟨n0, mv.heap T _ hTw e⟩
  | succ m ih =>
    intro i s T c hm hi st hTw hTS hT1 hls hT hSl k
    have lt : i < as.length := by omega
    refine codeAny_builtin F.entry_sum_loop ?_
    rw [Around.under_plainId F.plain_sum_loop _]
    show wpAny _ A.in1 (seqItems? (Value.ref S) >>= _) _ _ s
    refine wpAny_bind (wpAny_seqItems hSl rfl ?_)
    show wpAny _ A.in1 (tryCatch (pyNext (Value.ref I)) _ >>= _) _ _ s
    refine wpAny_bind (wpAny_tryCatch (W.item i s _ _ lt st fun v s' hv st' mv => ?_))
    obtain ⟨a, ha, rfl⟩ := isV i v hv
    obtain ⟨x, hx⟩ : ∃ x, xs[i]? = some x := ⟨xs[i]'(by omega), List.getElem?_eq_getElem (by omega)⟩
    have ea := hls i a x ha hx
    obtain ⟨haw, haS⟩ := notW a (List.mem_of_getElem? ha)
    have ea' : LstAt s'.heap a x := ea.up fun o z => mv.heap a o haw z
    have eT' : LstAt s'.heap T (ahead xs i) := hT.up fun o z => mv.heap T o hTw z
    have eS' := mv.heap S _ nw hSl
    have hsz : (ahead xs i).toArray.size + x.toArray.size ≤ sizeLine := by
      have h1 := ahead_le xs (i + 1)
      rw [ahead_succ hx, List.length_append] at h1
      simp only [List.size_toArray]
      omega
    show wpAny _ A.in1 ((holding [Value.ref a] (binaryOp .Add (.ref T) (.ref a))).attempt >>= _) _ _ s'
    refine wpAny_bind (wpAny_attempt (wpAny_holding (add_at eT' ea' hsz ?_)))
    generalize hg : s'.heap.push { cls := .type "list", data := .seq ((ahead xs i).toArray ++ x.toArray) } = g
    have big : I < s'.heap.objs.size := live _ _ st'
    have bigS : S < s'.heap.objs.size := Heap.lt_size eS'
    have old : ∀ b o, s'.heap.get? b = some o → g.get? b = some o := fun b o e => by
      rw [← hg]
      exact Heap.get?_push_of_some _ e
    have new : g.get? s'.heap.objs.size = some { cls := .type "list", dict := none, data := .seq (ahead xs (i + 1)).toArray 0, slots := #[] } := by
      rw [← hg, ahead_succ hx]
      have : (ahead xs i ++ x).toArray = (ahead xs i).toArray ++ x.toArray := by simp
      rw [this]
      exact Heap.get?_push_size _ rfl
    have gsz : g.objs.size = s'.heap.objs.size + 1 := by
      rw [← hg]
      exact Heap.size_push ..
    have gS := old S _ eS'
    show wpAny _ A.in1 (updateSeq S (fun _ => #[Value.ref s'.heap.objs.size]) >>= _) _ _ _
    refine wpAny_bind (wpAny_updateSeq gS rfl ?_)
    have gS2 := Heap.get?_update_self (Obj.mapSeq fun _ => #[Value.ref s'.heap.objs.size]) gS rfl
    refine wpAny_bind (wpAny_letGo ?_)
    refine wpAny_bind (wpAny_updateSeq gS2 rfl ?_)
    have gS3 := Heap.get?_update_self (Obj.mapSeq fun _ => #[Value.ref s'.heap.objs.size]) gS2 rfl
    have off : ∀ b o, b ≠ S → s'.heap.get? b = some o → ((g.update S (Obj.mapSeq fun _ => #[Value.ref s'.heap.objs.size])).update S (Obj.mapSeq fun _ => #[Value.ref s'.heap.objs.size])).get? b = some o := fun b o hb e =>
      (Heap.get?_update_other _ _ (Ne.symm hb)).trans ((Heap.get?_update_other _ _ (Ne.symm hb)).trans (old b o e))
    refine wpAny_pure ⟨plainId_quiet F.plain_sum_loop _, ih (i + 1) _ s'.heap.objs.size _ (by omega) lt (W.frame _ s' _ _ st' (Nat.le_refl _) fun b hb o e => off b o (fun z => out (by rw [← z]; exact hb)) e) (fun z => ?_) (fun z => ?_) (fun _ => ?_) (fun j a' x' h1 h2 => ?_) ?_ gS3 fun s'' T' mv2 hT' => ?_⟩
    · have := hwr _ z
      exact absurd this (Nat.ne_of_gt big)
    · exact absurd z (Nat.ne_of_gt bigS)
    · refine ⟨Nat.le_trans hNI (Nat.le_of_lt big), 0, (Heap.get?_update_other _ _ ?_).trans ((Heap.get?_update_other _ _ ?_).trans new)⟩ <;> exact Nat.ne_of_lt bigS
    · obtain ⟨h3, h4⟩ := notW a' (List.mem_of_getElem? h1)
      exact (hls j a' x' h1 h2).up fun o z => off a' o h4 (mv.heap a' o h3 z)
    · refine ⟨_, (Heap.get?_update_other _ _ ?_).trans ((Heap.get?_update_other _ _ ?_).trans new), rfl, 0, rfl⟩ <;> exact Nat.ne_of_lt bigS
    · refine k s'' T' (Moved.trans W.gtrans ((mv.mono up).then_heap (Nat.le_refl _) fun b o hb e => off b o (fun z => hb (by rw [z]; exact List.mem_cons_self)) e) mv2) hT'
end

/-- sum(classes, []): lists of anything, one behind the other -/
def rSumL (K : PySem.W.Frag) : List V → Hp → VK → Prop := fun vs H Q => ∃ (l e : Addr) (as : List Addr) (xss : List (List V)), vs = [.ref l, .ref e] ∧ SqL K H l (as.map V.ref) ∧ SqL K H e [] ∧ as.length = xss.length ∧ 0 < as.length ∧
  (∀ (j : Nat) a xs, as[j]? = some a → xss[j]? = some xs → SqL K H a xs) ∧ xss.flatten.length ≤ sizeLine ∧ ∀ p, H p = none → Q (.ref p) (upd H p (.lst xss.flatten))
theorem refs_vals : ∀ {as : List Addr} {us : List Value}, Vals (as.map V.ref) us → us = as.map Value.ref
  | [], _, .nil => rfl
  | a :: as, _, .cons r t => by
    cases r
    rw [refs_vals t]
    rfl
theorem vals_flat : ∀ {xss : List (List V)} {uss : List (List Value)}, xss.length = uss.length → (∀ (j : Nat) xs us, xss[j]? = some xs → uss[j]? = some us → Vals xs us) → Vals xss.flatten uss.flatten
  | [], [], _, _ => .nil
  | xs :: xss, us :: uss, hl, h => by
    rw [List.flatten_cons, List.flatten_cons]
    exact (h 0 xs us rfl rfl).append (vals_flat (by simpa using hl) fun j a b h1 h2 => h (j + 1) a b h1 h2)
theorem call_sumL {X : Cx} (hc : X.calm = true) : CallR X (.builtin "sum") (rSumL X.K) := by
  intro pins s σ H vs us Q Iv r h
  obtain ⟨l, e, as, xss, rfl, hl, he, len, pos, hin, room, q⟩ := h
  obtain ⟨u1, u2, rfl, r1, r2⟩ := vals2 r
  cases r1
  cases r2
  obtain ⟨its, rv, pl, _⟩ := Iv.list hl
  have ei := refs_vals rv
  subst ei
  obtain ⟨ite, rve, pe, _⟩ := Iv.list he
  cases rve
  obtain ⟨ol, el, _⟩ := id pl.isList
  obtain ⟨oe, ee, ce, _⟩ := id pe.isList
  -- the inner lists as they lie
  have inner : ∀ j : Nat, j < as.length → ∃ us : List Value, ∀ a xs, as[j]? = some a → xss[j]? = some xs → Vals xs us ∧ LstAt s.heap a us := fun j hj => by
    obtain ⟨it, rw', pj, _⟩ := Iv.list (hin j _ _ (List.getElem?_eq_getElem hj) (List.getElem?_eq_getElem (by omega)))
    refine ⟨it, fun a xs h1 h2 => ?_⟩
    rw [List.getElem?_eq_getElem hj] at h1
    rw [List.getElem?_eq_getElem (by omega)] at h2
    cases h1
    cases h2
    exact ⟨rw', pj.isList⟩
  let uss : List (List Value) := (List.range as.length).map fun j => if hj : j < as.length then (inner j hj).choose else []
  have ulen : uss.length = as.length := by simp [uss]
  have uat : ∀ (j : Nat) a xs us, as[j]? = some a → xss[j]? = some xs → uss[j]? = some us → Vals xs us ∧ LstAt s.heap a us := fun j a xs us h1 h2 h3 => by
    have hj : j < as.length := (List.getElem?_eq_some_iff.mp h1).1
    have : uss[j]? = some (inner j hj).choose := by
      simp [uss, hj]
    rw [this] at h3
    cases h3
    exact (inner j hj).choose_spec a xs h1 h2
  have flat : Vals xss.flatten uss.flatten := vals_flat (by rw [ulen, len]) fun j xs us h1 h2 => by
    have hj : j < as.length := by
      have := (List.getElem?_eq_some_iff.mp h1).1
      omega
    exact (uat j _ xs us (List.getElem?_eq_getElem hj) h1 h2).1
  have hh : X.A.handled = none := Iv.ok.hd hc
  refine call_function_tree F.kind_sum F.plain_sum F.entry_sum (sum_args2 _ _) ?_
  unfold Builtin.«sum»
  simp only [List.length_cons, List.length_nil]
  rw [if_neg (by decide)]
  refine wpAny_bind (wpAny_of_eq (show Builtin.Builtins.bindParams "sum" ["start"] 0 ⟨[Value.ref e], []⟩ = pure [some (Value.ref e)] from rfl) ?_)
  have isL : s.heap.IsList l (as.map Value.ref).toArray := pl.isList
  refine wpAny_bind (wpAny_pyIter_list isL ?_)
  generalize hg : s.heap.push { cls := .type "list_iterator", data := .fields #[.ref l, .int 0 0] } = g
  have g_old : ∀ b o, s.heap.get? b = some o → g.get? b = some o := fun b o z => by
    rw [← hg]
    exact Heap.get?_push_of_some _ z
  have g_it : g.IsListIter s.heap.objs.size l 0 := by
    rw [← hg]
    exact ⟨_, Heap.get?_push_size _ rfl, rfl, rfl⟩
  have g_sz : g.objs.size = s.heap.objs.size + 1 := by
    rw [← hg]
    exact Heap.size_push ..
  dsimp only
  refine wpAny_bind (wpAny_pure ?_)
  have tL : Shared.TypeIs { s with heap := g } (.ref e) "list" := ⟨_, g_old _ _ ee, ce⟩
  simp only [List.forIn_cons, List.forIn_nil]
  refine wpAny_bind (wpAny_bind (wpAny_bind (wpAny_isInstance (T := "list") (b := false) tL lst_str ?_)))
  simp only [Bool.false_eq_true, if_false]
  refine wpAny_pure (wpAny_bind (wpAny_bind (wpAny_isInstance (T := "list") (b := false) tL lst_bytes ?_)))
  simp only [Bool.false_eq_true, if_false]
  refine wpAny_pure (wpAny_bind (wpAny_bind (wpAny_isInstance (T := "list") (b := false) tL lst_bytearray ?_)))
  simp only [Bool.false_eq_true, if_false]
  refine wpAny_pure (wpAny_pure ?_)
  refine wpAny_bind (wpAny_newObj_type ?_)
  have lt_l : l < s.heap.objs.size := Heap.lt_size el
  have lt_e : e < s.heap.objs.size := Heap.lt_size ee
  have apart : l ≠ s.heap.objs.size := Nat.ne_of_lt lt_l
  have hS : g.objs.size ∉ [s.heap.objs.size, l] := by
    rw [g_sz]
    simp only [List.mem_cons, List.not_mem_nil, or_false, not_or]
    exact ⟨Nat.ne_of_gt (Nat.lt_succ_self _), Nat.ne_of_gt (Nat.lt_succ_of_lt lt_l)⟩
  have h3 : X.A.in1.handled = none := by simpa using hh
  have lt_in : ∀ a ∈ as, a < s.heap.objs.size := fun a ha => by
    obtain ⟨j, hj, e1⟩ := List.getElem_of_mem ha
    obtain ⟨_, _, ⟨_, _, ej, _⟩, _⟩ := Iv.list (hin j a _ (by rw [List.getElem?_eq_getElem hj, e1]) (List.getElem?_eq_getElem (by omega)))
    exact Heap.lt_size ej
  have W0 := (PySem.Walks.list (prog := X.prog) (w := X.w) h3 s.heap.objs.size l apart (as.map Value.ref).toArray).toS
  have e2 : (as.map Value.ref).toArray.size = as.length := by simp
  rw [e2] at W0
  have ne_in : ∀ a, a < s.heap.objs.size → a ∉ [s.heap.objs.size] ∧ a ≠ g.objs.size := fun a ha => by
    rw [g_sz]
    refine ⟨fun z => ?_, Nat.ne_of_lt (Nat.lt_succ_of_lt ha)⟩
    rw [List.mem_singleton] at z
    exact absurd z (Nat.ne_of_lt ha)
  refine wpAny_pure ⟨plainId_quiet F.plain_sum_loop _, sum_lists as uss ulen.symm W0 (fun i v hv => ?_) g.objs.size hS (by rw [← flat.length]; exact room) s.heap.objs.size (fun a ha => ne_in a (lt_in a ha)) (fun b hb => by simpa using hb) (Nat.le_refl _) (fun i s1 st => ?_)
      (as.length - 0) 0 _ e 0 rfl (Nat.zero_le _) ?_ (ne_in e lt_e).1 (ne_in e lt_e).2 (fun z => absurd z (Nat.lt_irrefl 0)) (fun j a x h1 h2 => ?_) ?_ ?sl fun s' T' mv hT' => ?_⟩
  case sl => exact Heap.get?_push_size _ rfl
  · have h1 : (as.map Value.ref)[i]? = some v := by simpa using hv
    rw [List.getElem?_map] at h1
    cases z : as[i]? with
    | none =>
      rw [z] at h1
      cases h1
    | some a =>
      rw [z] at h1
      cases h1
      exact ⟨a, rfl, rfl⟩
  · obtain ⟨⟨o, ho, _⟩, _⟩ := st
    exact Heap.lt_size ho
  · refine ⟨?_, ?_⟩
    · exact g_it.at fun o z => Heap.get?_push_of_some _ z
    · exact LstAt.up (xs := as.map Value.ref) isL fun o z => Heap.get?_push_of_some _ (g_old _ _ z)
  · have hj : j < as.length := (List.getElem?_eq_some_iff.mp h1).1
    exact (uat j a _ x h1 (List.getElem?_eq_getElem (by omega)) h2).2.up fun o z => Heap.get?_push_of_some _ (g_old _ _ z)
  · exact LstAt.up (xs := []) pe.isList fun o z => Heap.get?_push_of_some _ (g_old _ _ z)
  · obtain ⟨hT2, n, en⟩ := hT' pos
    obtain ⟨g2, gs, dr, tk, os⟩ := s'
    have e1 : gs = s.gens := mv.gens
    have e3 : dr = s.drawn := mv.drawn
    have e4 : os = s.os := mv.os
    subst e1
    subst e3
    subst e4
    have keep : ∀ b o, s.heap.get? b = some o → g2.get? b = some o := fun b o z => by
      have lt := Heap.lt_size z
      refine mv.heap b o (fun hb => ?_) (Heap.get?_push_of_some _ (g_old b o z))
      have h1 := ne_in b lt
      rcases List.mem_cons.mp hb with hb | hb
      · exact h1.2 hb
      · exact h1.1 hb
    have J : Inv X pins σ (upd H T' (.lst xss.flatten)) { s with heap := g2, toks := tk } := Iv.laid (t' := tk) keep hT2 (show ObjOk X.prog X.w _ g2 T' (.lst xss.flatten) from ⟨room, uss.flatten, n, flat, en⟩)
    exact ⟨.ref T', _, J, rfl, q T' (Iv.hok.fresh hT2)⟩
end Dl

/-! ## lists of lists, stores, sorted, in -/
namespace Dl
open PySem PySem.Spec PyProof.Rows L2

section
variable {K : PySem.W.Frag} {W : Fx} {EX : Hp → Prop} {ρ : List Sk} {P P1 P2 : PyData → Prop} {te ta tb tk : TE} {ds : List PyData} {tr : TS} {O : Out} {PA : List PyData → Prop}
def rListOf (K : PySem.W.Frag) : List V → Hp → VK → Prop := fun xs H Q => ∃ p ys, xs = [.ref p] ∧ (SqL K H p ys ∨ SqT K H p ys) ∧ ∀ l, H l = none → Q (.ref l) (upd H l (.lst ys))
theorem evf_listT (h : EvN K W te ρ (fun d => ∃ ds, PA ds ∧ d = .tuple ds)) : EvF K W (tCB (rListOf K) (tCons te tNil)) ρ PA := fun D0 H0 D H σ e Q q =>
  h D0 H0 D H σ e _ fun v D1 H1 d s1 q1 ⟨ds, p, e1⟩ => by
    subst e1
    cases q1 with
    | tup h1 h2 =>
      have o1 := s1.ok e.ok
      exact ⟨_, _, rfl, Or.inr (same_t s1.sub h1), fun l hl => q l _ D1 _ _ (s1.trans e.ok (.keptH o1 (same_new hl))) (fresh_of e.ok s1 hl) (o1.sub.free hl) upd_same h2 p⟩
theorem evf_lstRg {n : Nat} (h : EvD K W te ρ (.int (n : Int))) (hn : n ≤ 100000) : EvF K W (tLstRg (tRg1 te)) ρ (· = ups 0 n) := fun D0 H0 D H σ e Q q =>
  h D0 H0 D H σ e _ fun v D1 H1 d s1 q1 p1 => by
    subst p1
    cases q1
    have o1 := s1.ok e.ok
    have er : rgV 0 (n : Int) = (List.range n).map fun i => V.int (0 + (i : Nat)) := by
      unfold rgV
      rw [Int.sub_zero, Int.toNat_natCast]
    have dq : ∀ D : Hp, DqA K D (rgV 0 (n : Int)) (ups 0 n) := fun D => by
      rw [er]
      unfold ups
      have aux : ∀ ks : List Nat, DqA K D (ks.map fun i => V.int (0 + (i : Nat))) (ks.map fun (i : Nat) => PyData.int (0 + (i : Int))) := fun ks => by
        induction ks with
        | nil => exact .nil
        | cons k ks ih => exact .cons (.int _) ih
      exact aux _
    refine ⟨(n : Int), rfl, .of_le (Int.le_refl 0) (by omega) (by decide) (by omega), fun l hl => ?_⟩
    exact q l _ D1 _ _ (s1.trans e.ok (.keptH o1 (same_new hl))) (fresh_of e.ok s1 hl) (o1.sub.free hl) upd_same (dq _) rfl
theorem evf_sortI {PN : List Int → Prop} (h : EvB K W te ρ (fun ds => ∃ ns : List Int, ds = ns.map .int ∧ PN ns)) : EvF K W (tCB (rSortedI K) (tCons te tNil)) ρ (fun es => ∃ ns ns' : List Int, PN ns ∧ ns'.Perm ns ∧ ns'.Pairwise (· ≤ ·) ∧ es = ns'.map .int) := fun D0 H0 D H σ e Q q =>
  h D0 H0 D H σ e _ fun l xs D1 H1 ds s1 hl q1 ⟨ns, e1, p⟩ => by
    subst e1
    have o1 := s1.ok e.ok
    have ex := q1.isInts
    subst ex
    exact ⟨l, ns, rfl, hl, fun ns' p' h1 h2 h3 => q p' _ D1 _ _ (s1.trans e.ok (.keptH o1 (same_new h3))) (fresh_of e.ok s1 h3) (o1.sub.free h3) upd_same (DqA.ints ns') ⟨ns, ns', p, h1, h2, rfl⟩⟩
theorem evf_sortSet {w : World} {PN : List Int → Prop} (h : EvB K W te ρ (fun ds => ∃ ns : List Int, ds = ns.map .int ∧ ns.length < 64 ∧ PN ns)) : EvF K W (tCB (rSortedSet w) (tCons (tCB (rSetI K w) (tCons te tNil)) tNil)) ρ (fun es => ∃ ns ns' : List Int, PN ns ∧ ns'.Pairwise (· < ·) ∧ (∀ k, k ∈ ns' ↔ k ∈ ns) ∧ ns'.length ≤ ns.length ∧ es = ns'.map .int) := fun D0 H0 D H σ e Q q =>
  h D0 H0 D H σ e _ fun l xs D1 H1 ds s1 hl q1 ⟨ns, e1, hz, p⟩ => by
    subst e1
    have o1 := s1.ok e.ok
    have ex := q1.isInts
    subst ex
    refine ⟨l, ns, rfl, hl, by omega, fun a f c ha hf hc => ?_⟩
    have s2 : Step W D H D1 (upd H1 a (SetO w a f c)) := s1.trans e.ok (.keptH o1 (same_new ha))
    have o2 := s2.ok e.ok
    refine ⟨a, f, c, rfl, upd_same, by omega, fun ns' b h1 h2 h3 h4 => ?_⟩
    exact q b _ D1 _ _ (s2.trans e.ok (.keptH o2 (same_new h4))) (fresh_of e.ok s2 h4) (o2.sub.free h4) upd_same (DqA.ints ns') ⟨ns, ns', p, h1, fun k => (h2 k).trans (hf k), by omega, rfl⟩
theorem st_store {i k : Nat} (hρ : ρ[i]? = some (.own ds)) (h : EvN K W te ρ P) (hk : EvD K W tk ρ (.int (k : Int))) (hlt : k < ds.length) (kk : ∀ d, P d → StG K W EX tr (ρ.set i (.own (ds.set k d))) O) :
    StG K W EX (tSeq (tAsg te (gSub (tVar i) tk rSetL)) tr) ρ O := fun D0 H0 D H σ Dn e kn kb kc kr kx =>
  h D0 H0 D H σ e _ fun v D1 H1 d s1 q1 p1 => by
    have e1 := e.step s1
    obtain ⟨o, q0, l, xs, q2, q3, q4, q5, q6, q7⟩ := e1.slot i _ hρ
    subst q2
    refine ⟨.ref l, q0, ?_⟩
    refine hk D0 H0 D1 H1 σ e1 _ fun v2 D2 H2 d2 s2 y2 p2 => ?_
    subst p2
    cases y2
    have e2 := e1.step s2
    obtain ⟨o', r1, l', xs', r2, r3, r4, r5, r6, r7⟩ := e2.slot i _ hρ
    rw [q0] at r1
    cases r1
    cases r2
    refine ⟨l, xs', _, k, rfl, rfl, r6, ixN_of (by rw [r7.len]; exact hlt), ?_⟩
    have g := s1.gro.trans s2.gro
    exact kk d p1 D0 H0 D2 _ σ Dn (e2.write hρ q0 (r7.setAt k (q1.up s2.gro))) (fun a b c x g2 => kn a b c x (g.trans g2)) (fun a b c x g2 => kb a b c x (g.trans g2)) (fun a b c x g2 => kc a b c x (g.trans g2)) kr kx
theorem ev_slTA {tl th : TO} (h : EvD K W te ρ (.tuple ds)) (hl : EvO K W tl ρ) (hh : EvO K W th ρ) : EvN K W (L2.tSl (rSlA K) te tl th) ρ (fun d => ∃ es, (∃ i j, es = (ds.drop i).take j) ∧ d = .tuple es) := fun D0 H0 D H σ e Q q =>
  h D0 H0 D H σ e _ fun v D1 H1 d s1 q1 p1 => hl D0 H0 D1 H1 σ (e.step s1) _ fun lo D2 H2 s2 => hh D0 H0 D2 H2 σ ((e.step s1).step s2) _ fun hi D3 H3 s3 => by
    subst p1
    cases q1 with
    | tup h1 h2 =>
      have s13 := (s1.trans e.ok s2).trans e.ok s3
      have o3 := s13.ok e.ok
      have g := s2.gro.trans s3.gro
      refine ⟨_, _, rfl, same_t (g.trans o3.sub) h1, fun _ => q _ D3 H3 _ s13 (.tup (same_t g h1) (h2.up g)) ⟨ds, ⟨0, ds.length, by simp⟩, rfl⟩, fun _ p hp => ?_⟩
      refine q _ _ _ _ (s13.trans e.ok (Step.made o3 hp)) (.tup (SqT.of upd_same) (((h2.up g).up (same_new (o3.sub.free hp))).drop _ |>.take _)) ⟨_, ⟨_, _, rfl⟩, rfl⟩
theorem inV_ints {k : Int} (ns : List Int) : inV (.int k) (ns.map V.int) = decide (k ∈ ns) := by
  unfold inV
  rw [List.any_map]
  induction ns with
  | nil => rfl
  | cons n ns ih =>
    rw [List.any_cons, ih]
    show ((n == k) || _) = _
    by_cases h : n = k
    · simp [h]
    · have h' : ¬ k = n := fun z => h z.symm
      simp [h, h']
theorem flat_ints (ns : List Int) : (ns.map V.int).all flatV = true := by
  rw [List.all_map]
  exact List.all_eq_true.mpr fun _ _ => rfl
theorem rd_inL {neg : Bool} {k : Int} {ns : List Int} : RD K W (rIn K neg) (.int k) (.list (ns.map .int)) (· = .bool (if neg = true then !decide (k ∈ ns) else decide (k ∈ ns))) := fun D H x y o hx hy Q q => by
  cases hx
  cases hy with
  | lst h1 h2 =>
    have ex := h2.isInts
    subst ex
    refine ⟨_, _, rfl, Or.inl (same_l o.sub h1), rfl, flat_ints ns, ?_⟩
    rw [inV_ints]
    exact q _ D H _ (.refl o) (.bl _) rfl
theorem rd_inT {neg : Bool} {k : Int} {ns : List Int} : RD K W (rIn K neg) (.int k) (.tuple (ns.map .int)) (· = .bool (if neg = true then !decide (k ∈ ns) else decide (k ∈ ns))) := fun D H x y o hx hy Q q => by
  cases hx
  cases hy with
  | tup h1 h2 =>
    have ex := h2.isInts
    subst ex
    refine ⟨_, _, rfl, Or.inr (same_t o.sub h1), rfl, flat_ints ns, ?_⟩
    rw [inV_ints]
    exact q _ D H _ (.refl o) (.bl _) rfl
theorem lists_of_dq {D : Hp} : ∀ {vs : List V} (xss : List (List PyData)), DqA K D vs (xss.map .list) → ∃ (as : List Addr) (vss : List (List V)), vs = as.map V.ref ∧ as.length = vss.length ∧ vss.length = xss.length ∧ (∀ (j : Nat) a xs, as[j]? = some a → vss[j]? = some xs → SqL K D a xs) ∧ DqA K D vss.flatten xss.flatten
  | _, [], .nil => ⟨[], [], rfl, rfl, rfl, fun _ _ _ h => (nomatch h), .nil⟩
  | _, xs :: xss, .cons (.lst h1 h2) t => by
    obtain ⟨as, vss, e1, e2, e3, e4, e5⟩ := lists_of_dq xss t
    refine ⟨_ :: as, _ :: vss, by rw [e1]; rfl, by simp [e2], by simp [e3], fun j a ys ha hy => ?_, by rw [List.flatten_cons, List.flatten_cons]; exact h2.app e5⟩
    cases j with
    | zero =>
      cases ha
      cases hy
      exact h1
    | succ j => exact e4 j a ys ha hy
theorem evf_sumL {xss : List (List PyData)} (ha : EvD K W ta ρ (.list (xss.map .list))) (hb : EvD K W tb ρ (.list [])) (h0 : 0 < xss.length) (hz : xss.flatten.length ≤ sizeLine) : EvF K W (tCB (rSumL K) (tCons ta (tCons tb tNil))) ρ (· = xss.flatten) := fun D0 H0 D H σ e Q q =>
  ha D0 H0 D H σ e _ fun v D1 H1 d s1 q1 p1 => hb D0 H0 D1 H1 σ (e.step s1) _ fun v2 D2 H2 d2 s2 q2 p2 => by
    subst p1
    subst p2
    have s12 := s1.trans e.ok s2
    have o2 := s12.ok e.ok
    cases q1 with
    | lst h1 h2 =>
      cases q2 with
      | lst h3 h4 =>
        cases h4
        obtain ⟨as, vss, rfl, e2, e3, e4, e5⟩ := lists_of_dq xss h2
        refine ⟨_, _, as, vss, rfl, same_l (s2.gro.trans o2.sub) h1, same_l o2.sub h3, e2, by omega, fun j a xs z1 z2 => same_l (s2.gro.trans o2.sub) (e4 j a xs z1 z2), by rw [e5.len]; exact hz, fun p hp => ?_⟩
        exact q p _ D2 _ _ (s12.trans e.ok (.keptH o2 (same_new hp))) (fresh_of e.ok s12 hp) (o2.sub.free hp) upd_same (e5.up s2.gro) rfl
theorem eqv_ints : ∀ (a b : List Int), PyData.eqv (.list (a.map .int)) (.list (b.map .int)) = decide (a = b)
  | [], b => by cases b <;> simp [PyData.eqv, PyData.eqvAll]
  | x :: a, [] => by simp [PyData.eqv, PyData.eqvAll]
  | x :: a, y :: b => by
    have ih := eqv_ints a b
    have e1 : PyData.eqv (.list (.int x :: a.map .int)) (.list (.int y :: b.map .int)) = (PyData.eqv (.int x) (.int y) && PyData.eqv (.list (a.map .int)) (.list (b.map .int))) := by simp [PyData.eqv, PyData.eqvAll]
    rw [List.map_cons, List.map_cons, e1, ih]
    by_cases h : x = y <;> simp [PyData.eqv, h]
end
end Dl

/-! ## an own list of own lists -/
namespace Dl
open PySem PySem.Spec PyProof.Rows L2

/-- the list l of the lists at as, each of ints -/
def Wll (l : Addr) (as : List Addr) (xss : List (List Int)) : Fx where
  root := .ref l
  adr p := p = l ∨ p ∈ as
  inv H := as.length = xss.length ∧ as.Nodup ∧ l ∉ as ∧ H l = some (.lst (as.map V.ref)) ∧ ∀ (j : Nat) a ns, as[j]? = some a → xss[j]? = some ns → H a = some (.lst (ns.map V.int))
  keep := fun H H' ⟨h0, h1, h2, h3, h4⟩ k => ⟨h0, h1, h2, k l _ (Or.inl rfl) h3, fun j a ns e1 e2 => k a _ (Or.inr (List.mem_of_getElem? e1)) (h4 j a ns e1 e2)⟩
  has := fun H a ⟨h0, h1, h2, h3, h4⟩ ha => by
    rcases ha with rfl | ha
    · rw [h3]
      exact fun z => nomatch z
    · obtain ⟨j, hj⟩ := List.getElem?_of_mem ha
      have hl : j < xss.length := by
        have := (List.getElem?_eq_some_iff.mp hj).1
        omega
      rw [h4 j a _ hj (List.getElem?_eq_getElem hl)]
      exact fun z => nomatch z

section
variable {K : PySem.W.Frag} {W W' : Fx} {ρ : List Sk} {D0 H0 D H D1 H1 H2 : Hp} {σ : L2.St}
theorem Step.thr (s : Step Fx.non D0 H0 D H) (f : ∀ p, W.adr p → H0 p = none) (t : Step W D H D1 H1) : Step Fx.non D0 H0 D1 H1 where
  gro := s.gro.trans t.gro
  sub := t.sub
  off := fun p u _ e => t.off p u (fun z => by rw [f p z] at e; cases e) (s.off p u (fun z => z) e)
  new := fun p h e => t.new p (s.new p h e) (by
    cases q : H0 p with
    | none => exact (e q).elim
    | some u =>
      rw [s.off p u (fun z => z) q]
      exact fun z => nomatch z)
  inv := trivial
theorem Step.put (s : Step Fx.non D0 H0 D H) {a : Addr} {u : HO} (h0 : H0 a = none) (hd : D a = none) : Step Fx.non D0 H0 D (upd H a u) where
  gro := s.gro
  sub := fun p x e => by
    rw [upd_ne (fun z => by rw [z, hd] at e; cases e)]
    exact s.sub p x e
  off := fun p x _ e => by
    rw [upd_ne (fun z => by rw [z, h0] at e; cases e)]
    exact s.off p x (fun z => z) e
  new := s.new
  inv := trivial
theorem Env.re (e : Env K W D0 H0 D H σ ρ) (no : ∀ (i : Nat) (s : Shp) (ds : List PyData), ρ[i]? ≠ some (Sk.ob s ds)) (hr : ∀ i : Nat, ρ[i]? = some Sk.rt → W'.root = W.root) (ok : Ok W' D H2) : Env K W' D H2 D H2 σ ρ where
  ok0 := ok
  st := .refl ok
  slot := fun i k h => by
    obtain ⟨o, h1, h2⟩ := e.slot i k h
    refine ⟨o, h1, ?_⟩
    cases k with
    | any => trivial
    | rt =>
      have h2 : o = some W.root := h2
      show o = some W'.root
      rw [hr i h, h2]
    | dat d => exact h2
    | dd f => exact h2
    | ob s ds => exact absurd h (no i s ds)
  dist := fun i j l s t ds es h1 _ _ _ => absurd h1 (no i s ds)
theorem Env.mark (e : Env K W D0 H0 D H σ ρ) {i : Nat} (hl : i < ρ.length) (hi : σ[i]? = some (some W.root)) : Env K W D0 H0 D H σ (ρ.set i .rt) where
  ok0 := e.ok0
  st := e.st
  slot := fun j k h => by
    by_cases hj : i = j
    · subst hj
      rw [List.getElem?_set_self hl] at h
      cases h
      exact ⟨_, hi, rfl⟩
    · rw [List.getElem?_set_ne hj] at h
      exact e.slot j k h
  dist := fun j k l sh th ds es h1 h2 => by
    have own_of : ∀ (j : Nat) sh fs, (ρ.set i .rt)[j]? = some (.ob sh fs) → ρ[j]? = some (.ob sh fs) := fun j sh fs h => by
      by_cases hj : i = j
      · subst hj
        rw [List.getElem?_set_self hl] at h
        cases h
      · rw [List.getElem?_set_ne hj] at h
        exact h
    exact e.dist j k l sh th ds es (own_of j _ _ h1) (own_of k _ _ h2)
/-- [[] for i in range(n)] -/
theorem ll_new {n i : Nat} (hn : n ≤ 1000) {Q : VK} (q : ∀ l as H', Same H H' → H l = none → (∀ a ∈ as, H a = none) → (Wll l as (List.replicate n [])).inv H' → Q (.ref l) H') :
    tLc (iRng1 (tCons (tC (.int (n : Int))) tNil)) (gName i) tYes (tLst tNil) [i] σ H Q := by
  refine ⟨(n : Int), rfl, by omega, by omega, fun L hL => ?_⟩
  rw [Int.toNat_natCast]
  refine ⟨fun k m H2 => m = n - k ∧ k ≤ n ∧ ∃ as : List Addr, as.length = k ∧ as.Nodup ∧ L ∉ as ∧ H2 L = some (.lst (as.map V.ref)) ∧ (∀ a ∈ as, H a = none ∧ H2 a = some (.lst [])) ∧ Same H H2, ⟨_, rfl, Nat.zero_le _, [], rfl, List.nodup_nil, List.not_mem_nil, upd_same, (fun a ha => nomatch ha), same_new hL⟩, ?_⟩
  rintro k m H2 ⟨rfl, hk, as, h1, h2, h3, h4, h5, h6⟩
  by_cases hlt : k < n
  · refine Or.inr ⟨hlt, fun H' => k + 1 ≤ n ∧ ∃ as : List Addr, as.length = k + 1 ∧ as.Nodup ∧ L ∉ as ∧ H' L = some (.lst (as.map V.ref)) ∧ (∀ a ∈ as, H a = none ∧ H' a = some (.lst [])) ∧ Same H H', fun H' h => ⟨n - (k + 1), by omega, rfl, h⟩, ?_⟩
    rintro x H3 ⟨rfl, rfl⟩
    refine ⟨?_, ?_⟩
    · rw [wipe_eq (js := [i]) (by rw [List.length_set]) (fun j hj => hj) (fun j hj => List.getElem?_set_ne (fun z => hj (by simp [z]))), wipe_idem]
    · unfold tYes
      show (if true = true then _ else _)
      rw [if_pos rfl]
      refine ⟨Nat.zero_le _, fun p hp => ?_⟩
      have hLp : L ≠ p := fun z => by
        rw [← z, h4] at hp
        cases hp
      have hpa : p ∉ as := fun z => by
        rw [(h5 p z).2] at hp
        cases hp
      have hHp : H p = none := by
        cases z : H p with
        | none => rfl
        | some u =>
          rw [h6 p u z] at hp
          cases hp
      refine ⟨as.map V.ref, by rw [upd_ne hLp]; exact h4, ?_, hlt, as ++ [p], by rw [List.length_append, h1]; rfl, ?_, ?_, ?_, fun a ha => ?_, fun b u z => ?_⟩
      · rw [List.length_map, h1, sizeLine_eq]
        omega
      · rw [List.nodup_append]
        exact ⟨h2, by simp, fun a ha b hb z => hpa (by rw [List.mem_singleton] at hb; rw [← hb, ← z]; exact ha)⟩
      · rw [List.mem_append, List.mem_singleton]
        exact fun z => z.elim h3 hLp
      · rw [upd_same, List.map_append]
        rfl
      · rcases List.mem_append.mp ha with ha | ha
        · have : a ≠ L := fun z => h3 (by rw [← z]; exact ha)
          have hap : a ≠ p := fun z => hpa (by rw [← z]; exact ha)
          rw [upd_ne this, upd_ne hap]
          exact h5 a ha
        · rw [List.mem_singleton] at ha
          subst ha
          rw [upd_ne (Ne.symm hLp), upd_same]
          exact ⟨hHp, rfl⟩
      · rw [upd_ne (fun w => by rw [w, hL] at z; cases z), upd_ne (fun w => by rw [w, hHp] at z; cases z)]
        exact h6 b u z
  · have hie : k = n := by omega
    subst hie
    refine Or.inl ⟨Nat.le_refl _, q L as H2 h6 hL (fun a ha => (h5 a ha).1) ⟨by rw [List.length_replicate]; exact h1, h2, h3, h4, fun j a ns e1 e2 => ?_⟩⟩
    have : ns = [] := by
      rw [List.getElem?_replicate] at e2
      split at e2
      · cases e2
        rfl
      · cases e2
    subst this
    exact (h5 a (List.mem_of_getElem? e1)).2
theorem dqA_lists : ∀ (as : List Addr) (xss : List (List Int)), as.length = xss.length → (∀ (j : Nat) a ns, as[j]? = some a → xss[j]? = some ns → D a = some (.lst (ns.map V.int))) → DqA K D (as.map V.ref) (xss.map fun ns => .list (ns.map .int))
  | [], [], _, _ => .nil
  | [], _ :: _, h, _ => nomatch h
  | _ :: _, [], h, _ => nomatch h
  | a :: as, xs :: xss, h, k => .cons (.lst (SqL.of (k 0 a xs rfl rfl)) (DqA.ints xs)) (dqA_lists as xss (by simpa using h) fun j b ns e1 e2 => k (j + 1) b ns e1 e2)
/-- the lists stand still from now on -/
theorem ll_still {l : Addr} {as : List Addr} {xss : List (List Int)} (s : Step Fx.non D0 H0 D H) (f : ∀ p, p = l ∨ p ∈ as → H0 p = none) (ok : Ok (Wll l as xss) D H) :
    ∃ D', Step Fx.non D0 H0 D' H ∧ Same D D' ∧ Dq K D' (.ref l) (.list (xss.map fun ns => .list (ns.map .int))) := by
  obtain ⟨h0, h1, h2, h3, h4⟩ := ok.inv
  classical
  let D' : Hp := fun p => if p = l ∨ p ∈ as then H p else D p
  have dn : ∀ p, p = l ∨ p ∈ as → D p = none := fun p hp => ok.off p hp
  have din : ∀ p, (p = l ∨ p ∈ as) → D' p = H p := fun p hp => if_pos hp
  have dout : ∀ p, ¬ (p = l ∨ p ∈ as) → D' p = D p := fun p hp => if_neg hp
  have gd : Same D D' := fun p u z => by
    rw [dout p fun hp => by rw [dn p hp] at z; cases z]
    exact z
  refine ⟨D', ⟨s.gro.trans gd, fun p u z => ?_, s.off, fun p z1 z2 => ?_, trivial⟩, gd, ?_⟩
  · by_cases hp : p = l ∨ p ∈ as
    · rw [din p hp] at z
      exact z
    · rw [dout p hp] at z
      exact s.sub p u z
  · rw [dout p fun hp => z2 (f p hp)]
    exact s.new p z1 z2
  · refine .lst (SqL.of ((din l (Or.inl rfl)).trans h3)) (dqA_lists as xss h0 fun j a ns e1 e2 => (din a (Or.inr (List.mem_of_getElem? e1))).trans (h4 j a ns e1 e2))
end
end Dl

/-! ## slices told, sorted rows -/
namespace Dl
open PySem PySem.Spec PyProof.Rows L2

section
variable {K : PySem.W.Frag} {W : Fx} {ρ : List Sk} {te : TE} {ds : List PyData}
def EvOv (K : PySem.W.Frag) (W : Fx) (to : TO) (ρ : List Sk) (v : Option Int) : Prop := ∀ D0 H0 D H σ, Env K W D0 H0 D H σ ρ → ∀ Q : Option Int → Hp → Prop,
  (∀ D' H', Step W D H D' H' → Q v H') → to σ H Q
theorem eov_no : EvOv K W tNoPart ρ none := fun D0 H0 D H σ e Q q => q D H (.refl e.ok)
theorem eov_some {i : Int} (h : EvD K W te ρ (.int i)) : EvOv K W (tPart te) ρ (some i) := fun D0 H0 D H σ e Q q =>
  h D0 H0 D H σ e _ fun v D1 H1 d s1 q1 p1 => by
    subst p1
    cases q1
    exact ⟨i, rfl, q D1 H1 s1⟩
def cutQ (ds : List PyData) (lo hi : Option Int) : List PyData := (ds.drop (HT.sIx ds.length 0 lo)).take (HT.sIx ds.length ds.length hi - HT.sIx ds.length 0 lo)
theorem ev_slTv {tl th : TO} {lo hi : Option Int} (h : EvD K W te ρ (.tuple ds)) (hl : EvOv K W tl ρ lo) (hh : EvOv K W th ρ hi) : EvD K W (L2.tSl (rSlA K) te tl th) ρ (.tuple (cutQ ds lo hi)) := fun D0 H0 D H σ e Q q =>
  h D0 H0 D H σ e _ fun v D1 H1 d s1 q1 p1 => hl D0 H0 D1 H1 σ (e.step s1) _ fun D2 H2 s2 => hh D0 H0 D2 H2 σ ((e.step s1).step s2) _ fun D3 H3 s3 => by
    subst p1
    cases q1 with
    | tup h1 h2 =>
      have s13 := (s1.trans e.ok s2).trans e.ok s3
      have o3 := s13.ok e.ok
      have g := s2.gro.trans s3.gro
      have hlen := h2.len
      refine ⟨_, _, rfl, same_t (g.trans o3.sub) h1, fun hw => ?_, fun _ p hp => ?_⟩
      · have ec : cutQ ds lo hi = ds := by
          unfold cutQ
          rw [hlen] at hw
          rw [hw.1, hw.2, List.drop_zero, Nat.sub_zero, List.take_length]
        exact q _ D3 H3 (.tuple ds) s13 (.tup (same_t g h1) (h2.up g)) (by rw [ec])
      · refine q _ _ _ _ (s13.trans e.ok (Step.made o3 hp)) (.tup (SqT.of upd_same) ?_) rfl
        unfold cutV cutQ
        rw [hlen]
        exact ((h2.up g).up (same_new (o3.sub.free hp))).drop _ |>.take _
end
/-- .. of a sorted row there is one -/
theorem sorted_one : ∀ {a b : List Int}, a.Perm b → a.Pairwise (· ≤ ·) → b.Pairwise (· ≤ ·) → a = b
  | [], b, h, _, _ => (List.nil_perm.mp h).symm
  | x :: a, [], h, _, _ => absurd h.length_eq (by simp)
  | x :: a, y :: b, h, ha, hb => by
    rw [List.pairwise_cons] at ha hb
    have h1 : x = y := by
      have hx : x ∈ y :: b := h.mem_iff.mp List.mem_cons_self
      have hy : y ∈ x :: a := h.mem_iff.mpr List.mem_cons_self
      rcases List.mem_cons.mp hx with e | e
      · exact e
      · rcases List.mem_cons.mp hy with e' | e'
        · exact e'.symm
        · have h1 := ha.1 y e'
          have h2 := hb.1 x e
          omega
    subst h1
    rw [sorted_one h.cons_inv ha.2 hb.2]
theorem set_flat {α : Type} : ∀ {xss : List (List α)} {c : Nat} {xs : List α} {y : α}, xss[c]? = some xs → (xss.set c (xs ++ [y])).flatten.Perm (xss.flatten ++ [y])
  | [], _, _, _, h => nomatch h
  | xs :: xss, 0, _, y, h => by
    cases h
    rw [List.set_cons_zero, List.flatten_cons, List.flatten_cons, List.append_assoc, List.append_assoc]
    exact List.Perm.append_left _ List.perm_append_comm
  | ys :: xss, c + 1, xs, y, h => by
    rw [List.set_cons_succ, List.flatten_cons, List.flatten_cons, List.append_assoc]
    exact List.Perm.append_left _ (set_flat (by simpa using h))
end Dl

/-! ## zip of two tuples -/
namespace Dl
open PySem PySem.Spec PyProof.Rows L2 RZ

def zips : List PyData → List PyData → List PyData := List.zipWith fun a b => .tuple [a, b]
section
variable {K : PySem.W.Frag} {W : Fx} {ρ : List Sk} {te tf : TE} {ds es : List PyData}
theorem Walks.zipT {D : Hp} {a b : Addr} {xs ys : List V} (h1 : SqT K D a xs) (q1 : DqA K D xs ds) (h2 : SqT K D b ys) (q2 : DqA K D ys es) : Walks K W D (ItzT K a b) (zips ds es) := fun i D1 H1 o g => by
  have s1 : SqT K H1 a xs := same_t (g.trans o.sub) h1
  have s2 : SqT K H1 b ys := same_t (g.trans o.sub) h2
  refine ⟨fun d hd => ?_, fun hi => ⟨xs, ys, s1, s2, ?_⟩⟩
  · unfold zips at hd
    rw [List.getElem?_zipWith] at hd
    cases z1 : ds[i]? with
    | none =>
      rw [z1] at hd
      cases hd
    | some d1 =>
      cases z2 : es[i]? with
      | none =>
        rw [z1, z2] at hd
        cases hd
      | some d2 =>
        rw [z1, z2] at hd
        cases hd
        obtain ⟨v1, hv1, qv1⟩ := q1.at z1
        obtain ⟨v2, hv2, qv2⟩ := q2.at z2
        refine ⟨⟨xs, ys, v1, v2, s1, s2, hv1, hv2⟩, fun x H2 y => ?_⟩
        obtain ⟨T, x1, x2, e1, e2, e3, y1, y2⟩ := y
        subst e1
        subst e3
        have e4 := y1 xs s1
        rw [hv1] at e4
        cases e4
        have e5 := y2 ys s2
        rw [hv2] at e5
        cases e5
        have sN : Step W D1 H1 (upd D1 T (.tup [v1, v2])) (upd H1 T (.tup [v1, v2])) := .made o e2
        exact ⟨_, sN, .tup (Or.inl (Or.inl upd_same)) (.cons ((qv1.up g).up sN.gro) (.cons ((qv2.up g).up sN.gro) .nil))⟩
  · unfold zips at hi
    rw [List.length_zipWith] at hi
    rw [q1.len, q2.len]
    omega
theorem ei_zipT (ha : EvD K W te ρ (.tuple ds)) (hb : EvD K W tf ρ (.tuple es)) : EvI K W (iZipA K (tCons te (tCons tf tNil))) ρ (· = zips ds es) := fun D0 H0 D H σ e R k =>
  ha D0 H0 D H σ e _ fun v1 D1 H1 d1 s1 q1 p1 => hb D0 H0 D1 H1 σ (e.step s1) _ fun v2 D2 H2 d2 s2 q2 p2 => by
    subst p1
    subst p2
    have s12 := s1.trans e.ok s2
    cases q1 with
    | tup a1 a2 =>
      cases q2 with
      | tup b1 b2 => exact ⟨_, _, _, _, rfl, Or.inr ⟨same_t (s2.gro.trans s2.sub) a1, same_t s2.sub b1, k _ D2 H2 _ s12 (.zipT (same_t s2.gro a1) (a2.up s2.gro) b1 b2) rfl⟩⟩
variable {ta tb tc : TE}
theorem ev_chain {r r' : R2} {b c : Bool} {d1 d2 d3 : PyData} (ha : EvD K W ta ρ d1) (hb : EvD K W tb ρ d2) (hc : EvD K W tc ρ d3) (h1 : RD K W r d1 d2 (· = .bool b)) (h2 : RD K W r' d2 d3 (· = .bool c)) :
    EvD K W (tChain r r' ta tb tc) ρ (.bool (b && c)) := fun D0 H0 D H σ e Q q =>
  ha D0 H0 D H σ e _ fun x D1 H1 e1 s1 q1 p1 => by
    subst p1
    have o1 := e.step s1
    refine hb D0 H0 D1 H1 σ o1 _ fun y D2 H2 e2 s2 q2 p2 => ?_
    subst p2
    have o2 := o1.step s2
    refine h1 D2 H2 x y o2.ok (q1.up s2.gro) q2 _ fun z D3 H3 e3 s3 q3 p3 => ?_
    subst p3
    cases q3
    have o3 := o2.step s3
    have s123 := (s1.trans e.ok s2).trans e.ok s3
    refine ⟨b, rfl, ?_⟩
    cases b with
    | false => exact iteF (q (.bl false) D3 H3 _ s123 (.bl _) (by rw [Bool.false_and]))
    | true =>
      refine iteT (hc D0 H0 D3 H3 σ o3 _ fun w D4 H4 e4 s4 q4 p4 => ?_)
      subst p4
      refine h2 D4 H4 y w (o3.step s4).ok ((q2.up s3.gro).up s4.gro) q4 _ fun u D5 H5 e5 s5 q5 p5 => ?_
      exact q u D5 H5 _ ((s123.trans e.ok s4).trans e.ok s5) q5 (by rw [p5, Bool.true_and])
def noOwn (ρ : List Sk) : Bool := ρ.all fun k => match k with
  | .ob _ _ => false
  | _ => true
theorem noOwn_at (h : noOwn ρ = true) (i : Nat) (s : Shp) (xs : List PyData) : ρ[i]? ≠ some (Sk.ob s xs) := fun z => by
  have := List.all_eq_true.mp h _ (List.mem_of_getElem? z)
  cases this
theorem Env.off {D0 H0 D4 H4 D H : Hp} {σ : L2.St} (e : Env K W D0 H0 D4 H4 σ ρ) (no : noOwn ρ = true) (st : Step W D0 H0 D H) (g : Same D4 D) : Env K W D0 H0 D H σ ρ where
  ok0 := e.ok0
  st := st
  slot := fun i k h => by
    obtain ⟨o, h1, h2⟩ := e.slot i k h
    refine ⟨o, h1, ?_⟩
    cases k with
    | any => trivial
    | rt => exact h2
    | dat d =>
      obtain ⟨v, e1, q⟩ := h2
      exact ⟨v, e1, q.up g⟩
    | dd f =>
      obtain ⟨a, kvs, e1, z1, z2⟩ := h2
      exact ⟨a, kvs, e1, g a _ z1, fun k => (z2 k).imp id fun ⟨v, d, q1, q2, q3⟩ => ⟨v, d, q1, q2, q3.up g⟩⟩
    | ob s ds => exact absurd h (noOwn_at no i s ds)
  dist := fun i j l s t ds es h1 _ _ _ => absurd h1 (noOwn_at no i s ds)
variable {wi wi1 : TI} {g g1 : TG} {vs vs1 : List Nat}
/-- [e for x in .. for y in ..]: each walked whole -/
theorem evf_map2 {inn : PyData → List PyData} {f : PyData → PyData → PyData} (hv : ∀ v ∈ vs, v < ρ.length) (hv1 : ∀ v ∈ vs1, v < ρ.length) (hI : EvI K W wi ρ (· = ds)) (hn : (ds.flatMap fun d => (inn d).map (f d)).length ≤ 100000)
    (hs : ∀ d ∈ ds, ∃ ρ' js, (∀ j ∈ js, j ∈ vs) ∧ ρ'.length = ρ.length ∧ noOwn ρ' = true ∧ EvG K W g (wipeR ρ vs) d ρ' js ∧ EvI K W wi1 ρ' (· = inn d) ∧
      ∀ y ∈ inn d, ∃ ρ2 js2, (∀ j ∈ js2, j ∈ vs1) ∧ EvG K W g1 (wipeR ρ' vs1) y ρ2 js2 ∧ EvD K W te ρ2 (f d y)) :
    EvF K W (tLc2 wi g tYes wi1 g1 tYes te vs vs1) ρ (· = ds.flatMap fun d => (inn d).map (f d)) := fun D0 H0 D H σ e Q q => by
  refine hI D0 H0 D H σ e _ fun J D1 H1 ds' s1 wk p => ?_
  subst p
  intro L hL
  have e1 := e.step s1
  have o1 := e1.ok
  have hHL : H L = none := fresh_of e.ok s1 hL
  have hwL : ¬ W.adr L := fun hw => W.has H1 L s1.inv hw hL
  let Sm (D2 H2 : Hp) (acc : List PyData) : Prop := ∃ xs, Step W D1 H1 D2 H2 ∧ D2 L = none ∧ H2 L = some (.lst xs) ∧ DqA K D2 xs acc
  let out (i : Nat) : List PyData := (ds'.take i).flatMap fun d => (inn d).map (f d)
  have outs : ∀ {i : Nat} {d : PyData}, ds'[i]? = some d → out (i + 1) = out i ++ (inn d).map (f d) := fun {i d} h => by
    show (ds'.take (i + 1)).flatMap _ = (ds'.take i).flatMap _ ++ _
    rw [List.take_add_one, h, List.flatMap_append]
    simp
  have outle : ∀ {i : Nat} {d : PyData} (j : Nat), ds'[i]? = some d → (out i ++ ((inn d).take j).map (f d)).length ≤ 100000 := fun {i d} j h => by
    refine Nat.le_trans ?_ hn
    have e1 : (ds'.flatMap fun d => (inn d).map (f d)) = out (i + 1) ++ (ds'.drop (i + 1)).flatMap fun d => (inn d).map (f d) := by
      show _ = (ds'.take (i + 1)).flatMap _ ++ _
      rw [← List.flatMap_append, List.take_append_drop]
    rw [e1, outs h, List.length_append, List.length_append, List.length_append, List.length_map, List.length_map, List.length_take]
    omega
  refine ⟨fun i m H2 => m = ds'.length - i ∧ i ≤ ds'.length ∧ ∃ D2, Sm D2 H2 (out i), ⟨_, rfl, Nat.zero_le _, D1, [], .keptH o1 (same_new hL), o1.sub.free hL, upd_same, .nil⟩, ?_⟩
  rintro i m H2 ⟨rfl, hi, D2, xs, s2, d2, l2, q2⟩
  have e2 := e1.step s2
  by_cases hlt : i < ds'.length
  · have hd : ds'[i]? = some ds'[i] := List.getElem?_eq_getElem hlt
    generalize ds'[i] = d at hd
    obtain ⟨hgo, hy⟩ := (wk i D2 H2 e2.ok s2.gro).1 _ hd
    refine Or.inr ⟨hgo, fun H' => i + 1 ≤ ds'.length ∧ ∃ D2, Sm D2 H' (out (i + 1)), fun H' h' => ⟨_, by omega, rfl, h'⟩, fun x H3 y => ?_⟩
    obtain ⟨D3, s3, qx⟩ := hy x H3 y
    obtain ⟨ρ', js, hjs, hlen, hno, hg, hI1, hin⟩ := hs d (List.mem_of_getElem? hd)
    refine hg D0 H0 D3 H3 _ ((e2.step s3).wipe vs hv) x qx _ fun σ4 D4 H4 s4 e4 l4 c4 => ⟨?_, ?_⟩
    · rw [wipe_eq l4 hjs c4, wipe_idem]
    unfold tYes
    show (if true = true then _ else _)
    rw [if_pos rfl]
    refine hI1 D0 H0 D4 H4 σ4 e4 _ fun J1 D5 H5 es s5 wk1 p1 => ?_
    subst p1
    have sA : Step W D2 H2 D5 H5 := (s3.trans e2.ok s4).trans e2.ok s5
    have e5 := e4.step s5
    refine ⟨fun j k H6 => k = (inn d).length - j ∧ j ≤ (inn d).length ∧ ∃ D6, Same D5 D6 ∧ Sm D6 H6 (out i ++ ((inn d).take j).map (f d)), ⟨_, rfl, Nat.zero_le _, D5, Same.refl _, xs, s2.trans o1 sA, sA.new L d2 (by rw [l2]; exact fun z => nomatch z), sA.off L _ hwL l2, ?_⟩, ?_⟩
    · rw [List.take_zero, List.map_nil, List.append_nil]
      exact q2.up sA.gro
    rintro j k H6 ⟨rfl, hj, D6, g6, xs6, s6, d6, l6, q6⟩
    have e6 : Env K W D0 H0 D6 H6 σ4 ρ' := e5.off hno (e1.st.trans e.ok0 s6) g6
    by_cases hjl : j < (inn d).length
    · have hz : (inn d)[j]? = some (inn d)[j] := List.getElem?_eq_getElem hjl
      generalize (inn d)[j] = z at hz
      obtain ⟨hgo1, hy1⟩ := (wk1 j D6 H6 e6.ok g6).1 _ hz
      refine Or.inr ⟨hgo1, fun H' => j + 1 ≤ (inn d).length ∧ ∃ D6, Same D5 D6 ∧ Sm D6 H' (out i ++ ((inn d).take (j + 1)).map (f d)), fun H' h' => ⟨_, by omega, rfl, h'⟩, fun x1 H7 y1 => ?_⟩
      obtain ⟨D7, s7, qx1⟩ := hy1 x1 H7 y1
      obtain ⟨ρ2, js2, hjs2, hg1, hte⟩ := hin z (List.mem_of_getElem? hz)
      refine hg1 D0 H0 D7 H7 _ ((e6.step s7).wipe vs1 (fun v h => by rw [hlen]; exact hv1 v h)) x1 qx1 _ fun σ8 D8 H8 s8 e8 l8 c8 => ⟨?_, ?_⟩
      · rw [wipe_eq l8 hjs2 c8, wipe_idem]
      show (if true = true then _ else _)
      rw [if_pos rfl]
      refine hte D0 H0 D8 H8 σ8 e8 _ fun v D9 H9 dv s9 qv pv => ?_
      subst pv
      have sB : Step W D6 H6 D9 H9 := (s7.trans e6.ok s8).trans e6.ok s9
      have l9 : H9 L = some (.lst xs6) := sB.off L _ hwL l6
      have n9 : D9 L = none := sB.new L d6 (by rw [l6]; exact fun z => nomatch z)
      have sC : Step W D1 H1 D9 H9 := s6.trans o1 sB
      refine ⟨xs6, l9, ?_, hjl, D9, g6.trans sB.gro, xs6 ++ [v], ⟨sC.gro, fun b u z => ?_, fun b u hw z => ?_, sC.new, ?_⟩, n9, upd_same, ?_⟩
      · rw [q6.len]
        exact Nat.lt_of_le_of_lt (outle j hd) (by decide)
      · rw [upd_ne (fun w => by rw [w, n9] at z; cases z)]
        exact sC.sub b u z
      · rw [upd_ne (fun w => by rw [w, hL] at z; cases z)]
        exact sC.off b u hw z
      · refine W.keep H9 _ sC.inv fun b u hb z => ?_
        rw [upd_ne (fun w => hwL (by rw [← w]; exact hb))]
        exact z
      · rw [List.take_add_one, hz]
        show DqA K D9 (xs6 ++ [v]) (out i ++ ((inn d).take j ++ [z]).map (f d))
        rw [List.map_append, ← List.append_assoc]
        exact (q6.up sB.gro).app (.cons qv .nil)
    · have hje : j = (inn d).length := by omega
      subst hje
      refine Or.inl ⟨(wk1 _ D6 H6 e6.ok g6).2 (Nat.le_refl _), hlt, D6, xs6, s6, d6, l6, ?_⟩
      rw [outs hd]
      rw [List.take_length] at q6
      exact q6
  · have hie : i = ds'.length := by omega
    subst hie
    refine Or.inl ⟨(wk _ D2 H2 e2.ok s2.gro).2 (Nat.le_refl _), q L xs D2 H2 _ (s1.trans e.ok s2) hHL d2 l2 q2 ?_⟩
    show out ds'.length = _
    show (ds'.take ds'.length).flatMap _ = _
    rw [List.take_length]
end
end Dl

/-! ## set(a list of texts) -/
namespace Dl
open PySem PySem.Spec PyProof.Rows L2

/-- each text once, as they come -/
def once (ks : List Str) : List Str := ks.foldl (fun acc k => if k ∈ acc then acc else acc ++ [k]) []
theorem once_snoc (ks : List Str) (k : Str) : once (ks ++ [k]) = if k ∈ once ks then once ks else once ks ++ [k] := by
  unfold once
  rw [List.foldl_append]
  rfl
def firsts (val : Nat → Str) (i : Nat) : List Str := (List.range i).map val
theorem firsts_succ (val : Nat → Str) (i : Nat) : firsts val (i + 1) = firsts val i ++ [val i] := by
  unfold firsts
  rw [List.range_succ, List.map_append]
  rfl
theorem once_le (ks : List Str) : (once ks).length ≤ ks.length := by
  have gen : ∀ (ks acc : List Str), (ks.foldl (fun acc k => if k ∈ acc then acc else acc ++ [k]) acc).length ≤ acc.length + ks.length := fun ks => by
    induction ks with
    | nil => exact fun acc => Nat.le_refl _
    | cons k ks ih =>
      intro acc
      rw [List.foldl_cons, List.length_cons]
      refine Nat.le_trans (ih _) ?_
      split
      · omega
      · rw [List.length_append, List.length_singleton]
        omega
  have := gen ks []
  rw [List.length_nil] at this
  unfold once
  omega
/-- what the first i texts leave in the set at S -/
def HeapK (Pg : Program) (w : World) (h : Heap) (S : Addr) (val : Nat → Str) (i : Nat) : Prop := ∃ (f : Key → Bool) (c : Nat), h.SetOf (mixKind Pg w) S f c ∧ (∀ k, f k = true ↔ ∃ z ∈ once (firsts val i), k = .inr z) ∧ c = (once (firsts val i)).length

section
variable {Pg : Program} {w : World} {A : Around} {R : Result → Shared → Prop} {I : Addr} {fp wr : List Addr} {G : Array GenState → Array GenState → Prop} {n : Nat} {Pv : Nat → Value → Prop} {St : Nat → Shared → Prop}
theorem heap_loopK (W : WalksS Pg w A.in1 I fp wr G n Pv St) (S : Addr) (out : S ∉ fp) (val : Nat → Str) (isV : ∀ i v, Pv i v → ∃ t, v = .str (val i) t) (room : n + 1 < scanBound) :
    ∀ (m i : Nat) (s : Shared), n - i = m → i ≤ n → St i s → HeapK Pg w s.heap S val i → (∀ s', Moved (S :: wr) G s s' → HeapK Pg w s'.heap S val n → R (.ok (.ret .none)) s') →
      codeAny (model Pg w) A (.builtin "set.update.loop" ⟨[.ref S, .ref I], []⟩) R s := by
  have nw : S ∉ wr := fun h => out (W.sub _ h)
  have up : ∀ b ∈ wr, b ∈ S :: wr := fun b hb => List.mem_cons_of_mem _ hb
  have moved : ∀ {s s' : Shared} {i : Nat}, Moved wr G s s' → HeapK Pg w s.heap S val i → HeapK Pg w s'.heap S val i := fun hm ⟨f, c, r, q⟩ => ⟨f, c, setOf_at r fun o e => hm.heap S o nw e, q⟩
  intro m
  induction m with
  | zero =>
    intro i s hm hi st hS k
    obtain rfl : i = n := by omega
    refine codeAny_builtin F.entry_set_update_loop ?_
    rw [Around.under_plainId F.plain_set_update_loop _]
    show wpAny _ A.in1 (pyNext (Value.ref I) >>= _) _ _ s
    refine wpAny_bind (W.done s _ _ st fun s' mv => ?_)
    show wpAny _ A.in1 (ret Value.none) _ _ s'
    exact wpAny_pure (k s' (mv.mono up) (moved mv hS))
  | succ m ih =>
    intro i s hm hi st hS k
    have lt : i < n := by omega
    refine codeAny_builtin F.entry_set_update_loop ?_
    rw [Around.under_plainId F.plain_set_update_loop _]
    show wpAny _ A.in1 (pyNext (Value.ref I) >>= _) _ _ s
    refine wpAny_bind (W.item i s _ _ lt st fun v s' hv st' mv => ?_)
    obtain ⟨t, rfl⟩ := isV i v hv
    obtain ⟨f, c, r, hf, hc⟩ := moved mv hS
    show wpAny _ A.in1 (holding [Value.str (val i) t] (setAdd S (.str (val i) t)) >>= _) _ _ s'
    refine wpAny_bind (wpAny_holding ?_)
    unfold setAdd
    have hkey : (mixKind Pg w).is (.inr (val i)) (.str (val i) t) = true := mixKind_str Pg w (val i) t
    have hcl : c ≤ i := by
      have := once_le (firsts val i)
      unfold firsts at this
      rw [List.length_map, List.length_range] at this
      unfold firsts at hc
      omega
    refine wpAny_holding (wpAny_bind ((mixKind Pg w).pyHash hkey ?_))
    refine wpAny_setAddHashed_of (s := { s' with toks := s'.toks + 1 }) hkey rfl r (by omega) fun h2 sb r2 => ?_
    have here : HeapK Pg w h2 S val (i + 1) := by
      refine ⟨_, _, r2, fun k => ?_, ?_⟩
      · rw [firsts_succ, once_snoc, Bool.or_eq_true, decide_eq_true_eq, hf k]
        constructor
        · rintro (⟨z, hz, e⟩ | e)
          · refine ⟨z, ?_, e⟩
            split
            · exact hz
            · exact List.mem_append_left _ hz
          · refine ⟨val i, ?_, e⟩
            split
            · assumption
            · exact List.mem_append_right _ (by simp)
        · rintro ⟨z, hz, e⟩
          split at hz
          · exact Or.inl ⟨z, hz, e⟩
          · rcases List.mem_append.mp hz with hz | hz
            · exact Or.inl ⟨z, hz, e⟩
            · rw [List.mem_singleton] at hz
              exact Or.inr (by rw [e, hz])
      · rw [firsts_succ, once_snoc]
        by_cases hm : val i ∈ once (firsts val i)
        · rw [if_pos hm, if_pos ((hf _).mpr ⟨_, hm, rfl⟩)]
          exact hc
        · rw [if_neg hm, if_neg (fun z => by
            obtain ⟨y, hy, e⟩ := (hf _).mp z
            cases e
            exact hm hy), List.length_append, hc]
          rfl
    have keepFp : ∀ b ∈ fp, ∀ o, s'.heap.get? b = some o → h2.get? b = some o := fun b hb o e => by
      rw [sb.2 b (fun z => out (by rw [← z]; exact hb))]
      exact e
    refine wpAny_pure ⟨plainId_quiet F.plain_set_update_loop _, ih (i + 1) _ (by omega) lt (W.frame _ s' _ _ st' (Nat.le_succ _) keepFp) here fun s'' mv2 hS2 => ?_⟩
    refine k s'' (Moved.trans W.gtrans ((mv.mono up).then_heap (Nat.le_succ _) fun b o hb e => ?_) mv2) hS2
    rw [sb.2 b (fun z => hb (by rw [z]; exact List.mem_cons_self))]
    exact e
end

section
variable {Pg : Program} {w : World} {A : Around} {E : Value → Shared → Prop} {s : Shared}
set_option maxHeartbeats 3200000 in
theorem call_set_texts {l : Addr} {items : Array Value} {zs : List Str} {Q : Value → Shared → Prop} (hh : A.handled = none) (hl : s.heap.IsList l items) (hi : Vals (zs.map V.str) items.toList) (room : items.size + 1 < scanBound)
    (k : ∀ (g : Heap) (tk : Nat), HeapK Pg w g s.heap.objs.size (fun i => zs.getD i Str.empty) items.size → (∀ b o, b < s.heap.objs.size → s.heap.get? b = some o → g.get? b = some o) → Q (.ref s.heap.objs.size) { s with heap := g, toks := tk }) :
    wpAny (model Pg w) A (call (.type "set") [.ref l]) Q E s := by
  obtain ⟨c, tl, hmro⟩ := F.called_set.mro
  have m1 := F.called_set.made
  have m2 := F.called_set.sub
  refine wpAny_call (codeAny_of_tree ?_)
  show wpAny _ _ (callAny (Value.type "set") _) _ _ _
  refine wpAny_pure ⟨Code.quiet_builtin _ (by decide +kernel), codeAny_builtin F.entry_type_call ?_⟩
  rw [Around.under_plain (weight_type_call_type "set" [Value.ref l] []) rfl]
  have m3 := F.called_set.notType
  have m4 := F.called_set.canCreate
  have m5 := F.typeCall_set_1 (Value.ref l)
  repeat (any_goals (first | assumption | wp_step))
  generalize hfr : (s.heap.push { cls := .type "set", dict := none, data := .set #[] 0 (.fresh 0 0 (!w.params.followText "set-order")) }) = hp0
  have fresh0 : hp0.SetOf (mixKind Pg w) s.heap.objs.size (fun _ => false) 0 := by
    rw [← hfr]
    exact ⟨_, #[], 0, _, Heap.get?_push_size _ rfl, ⟨rfl, rfl, rfl⟩, rfl, (fun e he => by simp at he), (fun k => by simp), (by decide), (by rfl), rfl⟩
  have get0 : hp0.get? s.heap.objs.size = some { cls := .type "set", dict := none, data := .set #[] 0 (.fresh 0 0 (!w.params.followText "set-order")) } := by
    rw [← hfr]
    exact Heap.get?_push_size _ rfl
  have old0 : ∀ b o, s.heap.get? b = some o → hp0.get? b = some o := fun b o e => by
    rw [← hfr]
    exact Heap.get?_push_of_some _ e
  have size0 : hp0.objs.size = s.heap.objs.size + 1 := by
    rw [← hfr]
    exact Heap.size_push ..
  refine codeAny_mono (led_new1 (Value.ref l) (E := E) (Q1 := fun obj s1 => obj = .ref s.heap.objs.size ∧ s1 = { s with heap := hp0 }) ⟨rfl, by rw [hfr]⟩) fun r s1 hr => ?_
  cases r with
  | error e => exact hr
  | ok fl =>
    cases fl with
    | ret obj =>
      obtain ⟨rfl, rfl⟩ := hr
      have hT : Shared.TypeIs { s with heap := hp0 } (.ref s.heap.objs.size) "set" := ⟨_, get0, rfl⟩
      have i1 := F.called_set.init.lookup
      have i2 := F.called_set.init.bind (Value.ref s.heap.objs.size)
      repeat (any_goals (first | assumption | wp_step))
      refine codeAny_mono (codeAny_call_builtin (R := wants (fun r s2 => r = .none ∧ ∃ g tk, s2 = { s with heap := g, toks := tk } ∧ HeapK Pg w g s.heap.objs.size (fun i => zs.getD i Str.empty) items.size ∧
          (∀ b o, b < s.heap.objs.size → s.heap.get? b = some o → g.get? b = some o)) E) F.called_set.init.plain F.entry_set_init (check_set_init_1 hT ?_)) fun r2 s2 hr2 => ?_
      · obtain ⟨ol, hol, hcl, nl, hdl⟩ := hl
        obtain ⟨ocls, odict, odata, oslots⟩ := ol
        simp only at hcl hdl
        subst hcl
        subst hdl
        have hol' : hp0.get? l = some { cls := .type "list", dict := odict, data := .seq items nl, slots := oslots } := old0 _ _ hol
        have q1 := F.sub_list_set
        have q2 := F.sub_list_frozenset
        have q3 : (Value.type "list" == Value.type "dict") = false := by decide
        have isL : hp0.IsList l items := ⟨_, hol', rfl, nl, rfl⟩
        unfold Builtin.«set.__init__»
        unfold noKeywords
        unfold Builtin.Frozenset.updateFrom
        generalize hPI : pyIter = PI
        wp_walk
        subst hPI
        refine wpAny_pyIter_list isL (wpAny_bind (wpAny_runValue ?_))
        have lS : l < s.heap.objs.size := Heap.lt_size hol
        have h3 : A.in1.in1.in1.handled = none := by simp [hh]
        have apart : l ≠ hp0.objs.size := by
          rw [size0]
          exact Nat.ne_of_lt (Nat.lt_succ_of_lt lS)
        have outS : s.heap.objs.size ∉ [hp0.objs.size, l] := by
          rw [size0]
          simp only [List.mem_cons, List.not_mem_nil, or_false, not_or]
          exact ⟨Nat.ne_of_lt (Nat.lt_succ_self _), Nat.ne_of_gt lS⟩
        have isV : ∀ (i : Nat) (v : Value), items[i]? = some v → ∃ t, v = .str ((fun i => zs.getD i Str.empty) i) t := fun i v hv => by
          have hv2 : items.toList[i]? = some v := by rw [Array.getElem?_toList]; exact hv
          have hlt : i < zs.length := by
            have h1 := (List.getElem?_eq_some_iff.mp hv2).1
            have h2 := hi.length
            rw [List.length_map] at h2
            omega
          obtain ⟨u, hu, ru⟩ := hi.get (i := i) (x := V.str zs[i]) (by rw [List.getElem?_map, List.getElem?_eq_getElem hlt]; rfl)
          rw [hv2] at hu
          cases hu
          obtain ⟨t, e⟩ := ru
          refine ⟨t, ?_⟩
          rw [e]
          show Value.str zs[i] t = Value.str (zs.getD i Str.empty) t
          rw [List.getD_eq_getElem?_getD, List.getElem?_eq_getElem hlt]
          rfl
        refine heap_loopK ((PySem.Walks.list h3 _ l apart items).toS) s.heap.objs.size outS (fun i => zs.getD i Str.empty) isV room (items.size - 0) 0 _ (by omega) (Nat.zero_le _) ⟨⟨_, Heap.get?_push_size _ rfl, rfl, rfl⟩, isL.push _⟩ ?_ ?_
        · refine ⟨fun _ => false, 0, setOf_at fresh0 fun o e => Heap.get?_push_of_some _ e, fun k => ?_, rfl⟩
          constructor
          · intro z
            cases z
          · rintro ⟨z, hz, _⟩
            cases hz
        · intro s' hm hS'
          obtain ⟨g, gs, dr, tk, os⟩ := s'
          have e1 : gs = s.gens := hm.gens
          have e2 : dr = s.drawn := hm.drawn
          have e3 : os = s.os := hm.os
          subst e1
          subst e2
          subst e3
          show wpAny _ _ _ _ _ _
          refine wpAny_pure ?_
          show wpAny _ _ (ret Value.none) _ _ _
          refine wpAny_pure ⟨rfl, g, tk, rfl, hS', fun b o hb e => ?_⟩
          refine hm.heap b o ?_ (Heap.get?_push_of_some _ (old0 b o e))
          simp only [List.mem_cons, List.not_mem_nil, or_false, not_or]
          exact ⟨Nat.ne_of_lt hb, by rw [size0]; exact Nat.ne_of_lt (Nat.lt_succ_of_lt hb)⟩
      · cases r2 with
        | error e => exact hr2
        | ok fl2 =>
          cases fl2 with
          | ret r =>
            obtain ⟨rfl, g, tk, rfl, hS', hk'⟩ := hr2
            repeat (any_goals (first | assumption | wp_step))
            exact k _ _ hS' hk'
          | _ => exact hr2.elim
    | _ => exact hr.elim
end


theorem firsts_all (zs : List Str) : firsts (fun i => zs.getD i Str.empty) zs.length = zs := by
  unfold firsts
  refine List.ext_getElem? fun i => ?_
  rw [List.getElem?_map]
  by_cases hi : i < zs.length
  · rw [List.getElem?_range hi, List.getElem?_eq_getElem hi]
    show some (zs.getD i Str.empty) = _
    rw [List.getD_eq_getElem?_getD, List.getElem?_eq_getElem hi]
    rfl
  · rw [List.getElem?_eq_none (by rw [List.length_range]; omega), List.getElem?_eq_none (by omega)]
    rfl
/-- set(xs), xs a list of texts -/
def rSetS (K : PySem.W.Frag) (P : Program) (w : World) : List V → Hp → VK → Prop := fun xs H Q => ∃ (l : Addr) (zs : List Str), xs = [.ref l] ∧ SqL K H l (zs.map V.str) ∧ zs.length ≤ 4000 ∧
  ∀ (p : Addr) (f : Key → Bool), H p = none → Q (.ref p) (upd H p (SetK P w p f (once zs).length))
theorem call_setS {X : Cx} (hc : X.calm = true) : CallR X (.type "set") (rSetS X.K X.prog X.w) := by
  intro pins s σ H xs us Q I r h
  obtain ⟨l, zs, rfl, hq, hz, q⟩ := h
  obtain ⟨u, rfl, ru⟩ := vals1 r
  cases ru
  obtain ⟨its, rv, pl, _⟩ := I.list hq
  have len : its.toArray.size = zs.length := by rw [List.size_toArray, ← rv.length, List.length_map]
  refine call_set_texts (I.ok.hd hc) pl.isList (zs := zs) (by simpa using rv) (by rw [len]; unfold scanBound; omega) fun g tk hS hk => ?_
  obtain ⟨f, c, rS, hf, hcl⟩ := hS
  rw [len, firsts_all] at hcl
  subst hcl
  have J : Inv X pins σ (upd H s.heap.objs.size (SetK X.prog X.w s.heap.objs.size f (once zs).length)) { s with heap := g, toks := tk } := I.laid (t' := tk) (fun b o e => hk b o (Heap.lt_size e) e) (Nat.le_refl _) (setK_new rS)
  exact ⟨.ref s.heap.objs.size, _, J, rfl, q _ f (I.hok.fresh (Nat.le_refl _))⟩
/-- len(a set) -/
def rLenK (P : Program) (w : World) : List V → Hp → VK → Prop := fun xs H Q => ∃ (a : Addr) (S : Key → Bool) (n : Nat), xs = [.ref a] ∧ H a = some (SetK P w a S n) ∧ n < 2 ^ 62 ∧ Q (.int (n : Nat)) H
theorem call_lenK {X : Cx} : CallR X (.builtin "len") (rLenK X.prog X.w) := by
  intro pins s σ H xs us Q I r h
  obtain ⟨a, S, n, rfl, ha, hn, q⟩ := h
  obtain ⟨u, rfl, ru⟩ := vals1 r
  cases ru
  obtain ⟨o, es, ep, t, ho, hex, hd, _, _, _, hf, hsz⟩ := setK_get I ha
  exact call_len_set ho hex hd hf (by rw [hsz]; omega) ⟨.int n, H, I.tok _, ⟨_, by rw [hsz]⟩, q⟩
section
variable {K : PySem.W.Frag} {W : Fx} {ρ : List Sk} {te : TE} {P : Program} {w : World}
/-- len(set(xs)) -/
theorem ev_lenSetS {zs : List Str} (h : EvB K W te ρ (· = zs.map .str)) (hz : zs.length ≤ 4000) : EvD K W (tCB (rLenK P w) (tCons (tCB (rSetS K P w) (tCons te tNil)) tNil)) ρ (.int ((once zs).length : Int)) := fun D0 H0 D H σ e Q q =>
  h D0 H0 D H σ e _ fun l xs D1 H1 ds s1 hl q1 e1 => by
    subst e1
    have o1 := s1.ok e.ok
    have ex := q1.isStrs
    subst ex
    refine ⟨l, zs, rfl, hl, hz, fun a f ha => ?_⟩
    have s2 : Step W D H D1 (upd H1 a (SetK P w a f (once zs).length)) := s1.trans e.ok (.keptH o1 (same_new ha))
    have := once_le zs
    exact ⟨a, f, _, rfl, upd_same, by omega, q _ D1 _ _ s2 (.int _) rfl⟩
def rLeS : R2 := fun x y H Q => ∃ i j, x = .str i ∧ y = .str j ∧ Q (.bl (!decide (j.cps.toList < i.cps.toList))) H
theorem rd_leS {a b : Str} : RD K W rLeS (.str a) (.str b) (· = .bool (!decide (b.cps.toList < a.cps.toList))) := fun D H x y o hx hy Q q => by
  cases hx
  cases hy
  exact ⟨_, _, rfl, rfl, q _ D H _ (.refl o) (.bl _) rfl⟩
end
end Dl

/-! ## A dict of one's own: its keys in order, its items -/
namespace Dl
open PySem PySem.Spec PyProof.Rows L2

theorem kD_dq {K : PySem.W.Frag} {D : Hp} {v : V} : ∀ {k : Key}, Dq K D v (kD k) → v = kV k
  | .inl i, h => by
    cases h
    rfl
  | .inr z, h => by
    cases h
    rfl
instance decMemKey (k : Key) (ks : List Key) : Decidable (k ∈ ks) := decidable_of_iff ((ks.any fun j => decide (j = k)) = true) (by
  rw [List.any_eq_true]
  exact ⟨fun ⟨j, h1, h2⟩ => by rw [← of_decide_eq_true h2]; exact h1, fun h => ⟨k, h, decide_eq_true rfl⟩⟩)
def putKs (ks : List Key) (k : Key) : List Key := if k ∈ ks then ks else ks ++ [k]
def putDs {α : Type} (ks : List Key) (ds : List α) (k : Key) (d : α) : List α := if k ∈ ks then List.zipWith (fun j e => if j = k then d else e) ks ds else ds ++ [d]
theorem putKs_len (ks : List Key) (k : Key) : (putKs ks k).length ≤ ks.length + 1 := by
  unfold putKs
  split
  · omega
  · rw [List.length_append]
    exact Nat.le_refl _
theorem mem_putKs {ks : List Key} {k j : Key} : j ∈ putKs ks k ↔ j ∈ ks ∨ j = k := by
  unfold putKs
  split
  · rename_i h
    exact ⟨Or.inl, fun z => z.elim id fun e => by rw [e]; exact h⟩
  · rw [List.mem_append, List.mem_singleton]
theorem nd_putKs {ks : List Key} {k : Key} (h : ks.Nodup) : (putKs ks k).Nodup := by
  unfold putKs
  split
  · exact h
  · rename_i hk
    rw [List.nodup_append]
    exact ⟨h, by simp, fun a ha b hb z => hk (by rw [List.mem_singleton] at hb; rw [← hb, ← z]; exact ha)⟩
theorem putDs_len {α : Type} {ks : List Key} {ds : List α} {k : Key} {d : α} (h : ks.length = ds.length) : (putKs ks k).length = (putDs ks ds k d).length := by
  unfold putKs putDs
  split
  · rw [List.length_zipWith]
    omega
  · rw [List.length_append, List.length_append, h]
    rfl
theorem zip_put : ∀ (ks : List Key) (xs : List V) (k : Key) (v : V), ks.length = xs.length → putK (ks.zip xs) k v = (putKs ks k).zip (putDs ks xs k v) := fun ks xs k v hl => by
  have any : ((ks.zip xs).any fun kv => decide (kv.1 = k)) = decide (k ∈ ks) := by
    rw [Bool.eq_iff_iff, List.any_eq_true, decide_eq_true_eq]
    constructor
    · rintro ⟨⟨j, x⟩, h1, h2⟩
      have : j = k := of_decide_eq_true h2
      rw [← this]
      exact (List.of_mem_zip h1).1
    · intro h
      obtain ⟨i, hi⟩ := List.getElem?_of_mem h
      have hx : i < xs.length := by
        have := (List.getElem?_eq_some_iff.mp hi).1
        omega
      refine ⟨(k, xs[i]), List.mem_of_getElem? (i := i) ?_, decide_eq_true rfl⟩
      rw [List.getElem?_zip_eq_some]
      exact ⟨hi, List.getElem?_eq_getElem hx⟩
  unfold putK putKs putDs
  rw [any]
  by_cases hk : k ∈ ks
  · rw [if_pos (decide_eq_true hk), if_pos hk, if_pos hk]
    clear any hk
    induction ks generalizing xs with
    | nil => rfl
    | cons j ks ih =>
      cases xs with
      | nil => cases hl
      | cons x xs =>
        rw [List.zip_cons_cons, List.map_cons, List.zipWith_cons_cons, List.zip_cons_cons, ih xs (by simpa using hl)]
        congr 1
        by_cases h : j = k
        · rw [if_pos h, if_pos h]
        · rw [if_neg h, if_neg h]
  · rw [if_neg (fun z => hk (of_decide_eq_true z)), if_neg hk, if_neg hk, List.zip_append hl]
    rfl
theorem dqA_put {K : PySem.W.Frag} {D : Hp} {v : V} {d : PyData} (k : Key) (q : Dq K D v d) : ∀ {ks : List Key} {xs : List V} {ds : List PyData}, DqA K D xs ds → DqA K D (List.zipWith (fun j e => if j = k then v else e) ks xs) (List.zipWith (fun j e => if j = k then d else e) ks ds)
  | [], _, _, _ => by
    rw [List.zipWith_nil_left, List.zipWith_nil_left]
    exact .nil
  | j :: ks, _, _, .nil => by
    rw [List.zipWith_nil_right, List.zipWith_nil_right]
    exact .nil
  | j :: ks, _, _, .cons h1 h2 => by
    rw [List.zipWith_cons_cons, List.zipWith_cons_cons]
    refine .cons ?_ (dqA_put k q h2)
    by_cases h : j = k
    · rw [if_pos h, if_pos h]
      exact q
    · rw [if_neg h, if_neg h]
      exact h1

section
variable {K : PySem.W.Frag} {W : Fx} {EX : Hp → Prop} {ρ : List Sk} {ta tb tc te tk : TE} {tr : TS} {O : Out} {P P1 P2 : PyData → Prop} {ks : List Key} {ds : List PyData}
/-- a new own object -/
def EvO1 (K : PySem.W.Frag) (W : Fx) (te : TE) (ρ : List Sk) (s : Shp) (P : List PyData → Prop) : Prop := ∀ D0 H0 D H σ, Env K W D0 H0 D H σ ρ → ∀ Q : VK,
  (∀ l xs D' H' ds, Step W D H D' H' → H l = none → D' l = none → H' l = some (s.ho xs) → DqA K D' xs ds → P ds → Q (.ref l) H') → te σ H Q
theorem evo_dnew : EvO1 K W tDNewK ρ (.dK []) (· = []) := fun D0 H0 D H σ e Q q => fun p hp =>
  q p [] D _ [] (.keptH e.ok (same_new hp)) hp (e.ok.sub.free hp) upd_same .nil rfl
theorem EvF.o1 {PA : List PyData → Prop} (h : EvF K W te ρ PA) : EvO1 K W te ρ .lst PA := h
theorem st_setO {i : Nat} {s : Shp} {PA : List PyData → Prop} (hi : i < ρ.length) (h : EvO1 K W te ρ s PA) (k : ∀ ds, PA ds → StG K W EX tr (ρ.set i (.ob s ds)) O) : StG K W EX (tSeq (tAsg te (gName i)) tr) ρ O := fun D0 H0 D H σ Dn e kn kb kc kr kx =>
  h D0 H0 D H σ e _ fun l xs D1 H1 ds s1 hn hd hl q p => by
    refine k ds p D0 H0 D1 H1 _ Dn (e.new s1 hn hd hl q hi (e.step s1) hi fun j t es _ h => ⟨h, rfl⟩) (fun a b c x g2 => kn a b c x (s1.gro.trans g2)) (fun a b c x g2 => kb a b c x (s1.gro.trans g2)) (fun a b c x g2 => kc a b c x (s1.gro.trans g2)) kr kx
/-- a, b, c = .., {}, .. -/
theorem st_par3O {i j m : Nat} {s : Shp} {PL : List PyData → Prop} (hi : i < ρ.length) (hj : j < ρ.length) (hm : m < ρ.length) (ha : EvN K W ta ρ P1) (hb : EvO1 K W tb ρ s PL) (hc : EvN K W tc ρ P2) (hij : i ≠ j) (hjm : j ≠ m) (k : ∀ d1 ds d2, P1 d1 → PL ds → P2 d2 → StG K W EX tr (((ρ.set i (.dat d1)).set j (.ob s ds)).set m (.dat d2)) O) :
    StG K W EX (tSeq (tPar3 i j m (tCons ta (tCons tb (tCons tc tNil)))) tr) ρ O := fun D0 H0 D H σ Dn e kn kb kc kr kx =>
  ha D0 H0 D H σ e _ fun v D1 H1 d s1 q1 p1 => hb D0 H0 D1 H1 σ (e.step s1) _ fun l xs D2 H2 ds s2 hn hd hl q2 p2 => hc D0 H0 D2 H2 σ ((e.step s1).step s2) _ fun v3 D3 H3 d3 s3 q3 p3 => by
    have g : Same D D3 := (s1.gro.trans s2.gro).trans s3.gro
    refine ⟨v, .ref l, v3, rfl, ?_⟩
    have e1 := e.step s1
    have hw : ¬ W.adr l := fun hw => W.has H1 l e1.st.inv hw hn
    have s23 := s2.trans e1.ok s3
    have e3 := (e1.step s23).set hi (q1.up s23.gro)
    have e4 : Env K W D0 H0 D3 H3 ((σ.set i (some v)).set j (some (.ref l))) ((ρ.set i (.dat d)).set j (.ob s ds)) := e1.new s23 hn (s3.new l hd (by rw [hl]; exact fun z => nomatch z)) (s3.off l _ hw hl) (q2.up s3.gro) hj e3 (by rw [List.length_set]; exact hj) fun x t es hx h => by
      by_cases hix : i = x
      · subst hix
        rw [List.getElem?_set_self hi] at h
        cases h
      · rw [List.getElem?_set_ne hix] at h
        exact ⟨h, by rw [List.getElem?_set_ne hix]⟩
    have e5 := e4.set (i := m) (by rw [List.length_set, List.length_set]; exact hm) q3
    exact k d ds d3 p1 p2 p3 D0 H0 D3 H3 _ Dn e5 (fun a b c x g2 => kn a b c x (g.trans g2)) (fun a b c x g2 => kb a b c x (g.trans g2)) (fun a b c x g2 => kc a b c x (g.trans g2)) kr kx
/-- xs[k] = v -/
theorem st_dput {i : Nat} {k : Key} (hρ : ρ[i]? = some (.kd ks ds)) (h : EvN K W te ρ P) (hk : EvD K W tk ρ (kD k)) (hl : ks.length = ds.length) (hz : ks.length < sizeLine) (kk : ∀ d, P d → StG K W EX tr (ρ.set i (.kd (putKs ks k) (putDs ks ds k d))) O) :
    StG K W EX (tSeq (tAsg te (gSub (tVar i) tk rSetD)) tr) ρ O := fun D0 H0 D H σ Dn e kn kb kc kr kx =>
  h D0 H0 D H σ e _ fun v D1 H1 d s1 q1 p1 => by
    have e1 := e.step s1
    obtain ⟨o, q0, l, xs, q2, q3, q4, q5, q6, q7⟩ := e1.slot i _ hρ
    subst q2
    refine ⟨.ref l, q0, ?_⟩
    refine hk D0 H0 D1 H1 σ e1 _ fun v2 D2 H2 d2 s2 y2 p2 => ?_
    subst p2
    have hv2 := kD_dq y2
    have e2 := e1.step s2
    obtain ⟨o', r1, l', xs', r2, r3, r4, r5, r6, r7⟩ := e2.slot i _ hρ
    rw [q0] at r1
    cases r1
    cases r2
    have hlx : ks.length = xs'.length := by rw [r7.len]; exact hl
    refine ⟨l, _, rfl, Or.inl ⟨ks.zip xs', k, r6, hv2, ?_, rfl⟩, ?_⟩
    · rw [List.length_zip]
      omega
    have g := s1.gro.trans s2.gro
    rw [zip_put ks xs' k v hlx]
    refine kk d p1 D0 H0 D2 _ σ Dn (e2.writeO (t := .dK (putKs ks k)) hρ q0 (?_ : DqA K D2 (putDs ks xs' k v) (putDs ks ds k d))) (fun a b c x g2 => kn a b c x (g.trans g2)) (fun a b c x g2 => kb a b c x (g.trans g2)) (fun a b c x g2 => kc a b c x (g.trans g2)) kr kx
    unfold putDs
    split
    · exact dqA_put k (q1.up s2.gro) r7
    · exact r7.app (.cons (q1.up s2.gro) .nil)
/-- len of it -/
theorem ev_lenKd {i : Nat} (hρ : ρ[i]? = some (.kd ks ds)) (hl : ks.length = ds.length) : EvD K W (tCB (fun xs H Q => ∃ a kvs, xs = [V.ref a] ∧ H a = some (HO.dK kvs) ∧ Q (V.int ↑kvs.length) H) (tCons (tVar i) tNil)) ρ (.int ks.length) := fun D0 H0 D H σ e Q q => by
  obtain ⟨o, q0, l, xs, q2, q3, q4, q5, q6, q7⟩ := e.slot i _ hρ
  subst q2
  refine ⟨_, q0, l, _, rfl, q6, ?_⟩
  have : (ks.zip xs).length = ks.length := by
    rw [List.length_zip, q7.len, ← hl]
    exact Nat.min_self _
  rw [this]
  exact q _ D H _ (.refl e.ok) (.int _) rfl
end
end Dl

/-! ## repr of data in which a dict without items may stand -/
namespace Dl
open PySem PySem.Spec PyProof.Rows L2
/-- the modules' own dict stands at its address -/
def SysAt (h : Heap) : Prop := ∃ mm, h.Ns sysModules mm
theorem sys_of {h : Heap} (x : h.NoSeer) : SysAt h := by
  obtain ⟨mm, q, _⟩ := x.mods
  exact ⟨mm, q⟩

section
variable {X : Cx} {pins : List (Addr × Obj)} {σ : L2.St} {H : Hp} {s : Shared}
theorem sys_there (I : Inv X pins σ H s) (hs : SysAt X.base) : ∃ o es ep, s.heap.get? sysModules = some o ∧ o.data = .dict es ep := by
  obtain ⟨mm, o, es, ep, e, d, _⟩ := hs
  obtain ⟨e1, e2⟩ := I.ok.bs _ o e
  by_cases hf : sysModules ∈ X.fs
  · obtain ⟨sl, q⟩ := I.base.slot _ o e1 e2 hf (I.ok.noex _ o e)
    exact ⟨_, es, ep, q, d⟩
  · exact ⟨o, es, ep, I.base.keep _ o e1 e2 hf (I.ok.noex _ o e), d⟩
mutual
theorem Dq.readsS (I : Inv X pins σ H s) (hs : SysAt X.base) : ∀ {d : PyData} {v : V} (u : Value), Dq X.K H v d → RelV v u → ∃ as, Reads s.heap u d as ∧ sysModules ∉ as
  | _, _, _, .non, r => by
    cases (show _ = Value.none from r)
    exact ⟨_, Reads.none, List.not_mem_nil⟩
  | _, _, _, .bl b, r => by
    cases (show _ = Value.bool b from r)
    exact ⟨_, Reads.bool b, List.not_mem_nil⟩
  | _, _, _, .int i, r => by
    obtain ⟨t, rfl⟩ := r
    exact ⟨_, Reads.int i t, List.not_mem_nil⟩
  | _, _, _, .str x, r => by
    obtain ⟨t, rfl⟩ := r
    exact ⟨_, Reads.str x t, List.not_mem_nil⟩
  | _, _, _, .lst h1 h2, r => by
    cases r
    obtain ⟨its, rv, ⟨o, n, e1, e2, _, e3⟩, _⟩ := I.list h1
    obtain ⟨as, q, hn⟩ := DqA.readsS I hs its h2 rv
    refine ⟨_, Reads.list e1 e2 e3 q, fun z => ?_⟩
    rcases List.mem_cons.mp z with z | z
    · obtain ⟨o', es, ep, g1, g2⟩ := sys_there I hs
      rw [z, e1] at g1
      cases g1
      rw [e3] at g2
      cases g2
    · exact hn z
  | _, _, _, .tup h1 h2, r => by
    cases r
    obtain ⟨its, rv, ⟨o, e1, e2, n, e3⟩, _⟩ := I.tuple h1
    obtain ⟨as, q, hn⟩ := DqA.readsS I hs its h2 rv
    exact ⟨_, Reads.tuple e1 e2 e3 q, hn⟩
  | _, _, _, @Dq.dic _ _ a _ _ _ h1 hl h2, r => by
    cases r
    obtain ⟨_, hne, vs, kv, o, es, ep, e1, ⟨c1, _, _⟩, e2, _, pr, _⟩ := h1.ok I.hok
    obtain ⟨us, e3, e4, rv⟩ := kv_zip hl kv
    subst e3
    obtain ⟨as, q, hn⟩ := DqA.readsS I hs us h2 rv
    obtain ⟨bs, q2, eb⟩ := keys_read (h := s.heap) e4 pr
    subst eb
    have lk := h2.len
    refine ⟨_, Reads.dict e1 c1 e2 (as := []) (bs := as) ?_ ?_, fun z => ?_⟩
    · rw [List.map_fst_zip (by rw [List.length_map]; omega)]
      exact q2
    · rw [vals_pairs e4 pr, List.map_snd_zip (by rw [List.length_map]; omega)]
      exact q
    · have z : sysModules = a ∨ sysModules ∈ as := by simpa using z
      rcases z with z | z
      · rw [← z] at hne
        exact absurd hne (by decide)
      · exact hn z
theorem DqA.readsS (I : Inv X pins σ H s) (hs : SysAt X.base) : ∀ {ds : List PyData} {vs : List V} (us : List Value), DqA X.K H vs ds → Vals vs us → ∃ as, ReadsAll s.heap us ds as ∧ sysModules ∉ as
  | _, _, _, .nil, r => by
    cases r
    exact ⟨_, ReadsAll.nil, List.not_mem_nil⟩
  | _, _, _, .cons h1 h2, r => by
    cases r with
    | cons r1 r2 =>
      obtain ⟨as, q1, n1⟩ := Dq.readsS I hs _ h1 r1
      obtain ⟨bs, q2, n2⟩ := DqA.readsS I hs _ h2 r2
      exact ⟨_, ReadsAll.cons q1 q2, fun z => (List.mem_append.mp z).elim n1 n2⟩
end
end

section
variable {X : Cx}
/-- repr of data, where no guard stands -/
def rReprD (K : PySem.W.Frag) : List V → Hp → VK → Prop := fun xs H Q => ∃ x d, xs = [x] ∧ Dq K H x d ∧ d.showable = true ∧ (∀ kvs, d ≠ .dict kvs) ∧ d.depth ≤ 60 ∧
  d.shown.length ≤ sizeLine ∧ Q (.str d.shown) H
theorem call_reprD (hg : X.A.guards = some []) (hu : X.A.units + 64 < cLine) (hs : SysAt X.base) : CallR X (.builtin "repr") (rReprD X.K) := by
  intro pins s σ H xs us Q I r h
  obtain ⟨x, d, rfl, hd, h1, h2, h3, h4, q⟩ := h
  obtain ⟨u, rfl, ru⟩ := vals1 r
  obtain ⟨as, rd, hn⟩ := Dq.readsS I hs u hd ru
  cases d with
  | none =>
    cases hd
    cases (show u = Value.none from ru)
    exact PySem.P.repr_of_none ⟨.str "None", H, I.tok _, ⟨_, rfl⟩, q⟩
  | bool b =>
    cases hd
    cases (show u = Value.bool b from ru)
    exact PySem.P.repr_of_bool ⟨.str (if b then "True" else "False"), H, I.tok _, ⟨_, rfl⟩, q⟩
  | int i =>
    cases hd
    obtain ⟨t, rfl⟩ := ru
    exact PySem.P.repr_of_int (of_decide_eq_true h1) ⟨.str (toString i), H, I.tok _, ⟨_, rfl⟩, q⟩
  | str y =>
    cases hd
    obtain ⟨t, rfl⟩ := ru
    exact PySem.P.repr_of_str ⟨.str (reprText y), H, I.tok _, ⟨_, rfl⟩, q⟩ h4
  | list ds =>
    cases hd
    cases ru
    refine repr_of_reads' rd h1 (fun _ => hn) hg (by omega) (fun _ _ e => e) (fun h' u tk hk => ?_) h4
    exact ⟨.str _, H, I.kept hk, ⟨_, rfl⟩, q⟩
  | tuple ds =>
    cases hd
    cases ru
    refine repr_of_reads' rd h1 (fun _ => hn) hg (by omega) (fun _ _ e => e) (fun h' u tk hk => ?_) h4
    exact ⟨.str _, H, I.kept hk, ⟨_, rfl⟩, q⟩
  | dict kvs => exact absurd rfl (h2 kvs)
end

/-! ### what repr shows, dicts too -/
structure Sd (w p : Nat) (d : PyData) : Prop where
  a : d.showable = true
  c : d.depth ≤ p
  e : d.shown.length ≤ w
theorem Sm.sd {w p : Nat} {d : PyData} (h : Sm w p d) : Sd w p d := ⟨h.a, h.c, h.e⟩
theorem Sd.le {w w' p p' : Nat} {d : PyData} (h : Sd w p d) (hw : w ≤ w') (hp : p ≤ p') : Sd w' p' d := ⟨h.a, Nat.le_trans h.c hp, Nat.le_trans h.e hw⟩
theorem Sd.dict0 : Sd 2 1 (.dict []) := ⟨by decide +kernel, by decide +kernel, by decide +kernel⟩
theorem all_sd {w p : Nat} : ∀ (ds : List PyData), (∀ d ∈ ds, Sd w p d) → PyData.showableAll ds = true ∧ PyData.depthAll ds ≤ p
  | [], _ => by simp [PyData.showableAll, PyData.depthAll]
  | d :: ds, h => by
    obtain ⟨h1, h3⟩ := all_sd ds fun x hx => h x (List.mem_cons_of_mem _ hx)
    have h4 := h d List.mem_cons_self
    refine ⟨by simp [PyData.showableAll, h4.a, h1], ?_⟩
    have := h4.c
    simp only [PyData.depthAll]
    omega
theorem Sd.list {w p n : Nat} {ds : List PyData} (h : ∀ d ∈ ds, Sd w p d) (hn : ds.length ≤ n) : Sd (4 + n * (w + 2)) (p + 1) (.list ds) := by
  obtain ⟨h1, h3⟩ := all_sd ds h
  refine ⟨by simp only [PyData.showable]; exact h1, by simp only [PyData.depth]; omega, ?_⟩
  rw [PyData.shown_list, shownAll_map]
  have h4 := join_le (w := w) (ds.map PyData.shown) fun t ht => by
    obtain ⟨d, hd, e⟩ := List.mem_map.mp ht
    rw [← e]
    exact (h d hd).e
  have h5 : (Str.ofString "[").length = 1 := by decide +kernel
  have h6 : (Str.ofString "]").length = 1 := by decide +kernel
  rw [Str.length_append, Str.length_append, h5, h6]
  rw [List.length_map] at h4
  have h7 : ds.length * (w + 2) ≤ n * (w + 2) := Nat.mul_le_mul_right _ hn
  omega
theorem Sd.tuple {w p n : Nat} {ds : List PyData} (h : ∀ d ∈ ds, Sd w p d) (hn : ds.length ≤ n) : Sd (4 + n * (w + 2)) (p + 1) (.tuple ds) := by
  obtain ⟨h1, h3⟩ := all_sd ds h
  refine ⟨by simp only [PyData.showable]; exact h1, by simp only [PyData.depth]; omega, ?_⟩
  rw [PyData.shown_tuple, shownAll_map]
  have h4 := join_le (w := w) (ds.map PyData.shown) fun t ht => by
    obtain ⟨d, hd, e⟩ := List.mem_map.mp ht
    rw [← e]
    exact (h d hd).e
  have h5 : (Str.ofString "(").length = 1 := by decide +kernel
  have h6 : (Str.ofString (if (ds.length == 1) = true then ",)" else ")")).length ≤ 2 := by
    split
    · exact (by decide +kernel)
    · exact (by decide +kernel)
  rw [Str.length_append, Str.length_append, h5]
  rw [List.length_map] at h4
  have h7 : ds.length * (w + 2) ≤ n * (w + 2) := Nat.mul_le_mul_right _ hn
  omega
theorem rc_reprD {K : PySem.W.Frag} {W : Fx} {d : PyData} {w p : Nat} (h : Sd w p d) (hn : ∀ kvs, d ≠ .dict kvs) (hp : p ≤ 60) (hw : w ≤ 16777216) : RC K W (rReprD K) [d] (· = .str d.shown) := fun D H vs o hv Q q => by
  cases hv with
  | cons hx hv =>
    cases hv
    exact ⟨_, d, rfl, hx.up o.sub, h.a, hn, Nat.le_trans h.c hp, by rw [sizeLine_eq]; exact Nat.le_trans h.e hw, q _ D H _ (.refl o) (.str _) rfl⟩

/-! ### the law's own head, where the modules' dict stands -/
section
variable {P : Program} {w : World} {K : PySem.W.Frag} {mg mb : Str → Option Value} {C : CXT} {k : Nat} {fa a : Addr} {fd : FuncData}
  {x : Str} {sp : Sp} {s1 : Shared} {vs : List Value} {ns : List Int}

/-- the abstract heap at the law's entry: the script, locked, if it is none of the module's own -/
theorem headS_core (KX : K.In s1.heap) (hns : s1.heap.Ns mainGlobals mg) (hb : s1.heap.Ns builtinsNs mb)
    (hbb : ∀ x : Str, x ≠ "__name__" → mb x = bootBuiltins x) (hlim : s1.heap.NoLimit) (hg : s1.gens = #[])
    (ha : s1.heap.get? a = some { cls := .type "list", data := .seq vs.toArray }) (hr : Room k callerA)
    (hdg : s1.heap.NoDigits) (hsy : SysAt s1.heap)
    (F : ∀ base : Heap, K.In base → base.Ns mainGlobals mg → base.NoDigits → SysAt base → FnG P w K mg base C k fa fd [x] sp)
    (hbind : ∀ (s : Shared) (u : Value), BindsTo s fd ⟨[u], []⟩ [(x, u)])
    (hC : ∀ H e s', C [] H s1 (fun _ _ _ => False) e s' → False)
    (H : Hp) (hO : Only H) (hsp : sp [.ref a] H (fun v _ => v = .bl true) fun _ _ _ => False)
    (hok : HOk P w H s1.heap) (hA : ∀ b, H b ≠ none → b = a ∧ K.lookup b = none) :
    codeAny (model P w) callerA (.call (.ref fa) ⟨[.ref a], []⟩)
      (fun r s' => r = .ok (.ret (.bool true)) ∧ OldK s1.heap s'.heap ∧ s'.os = s1.os ∧ AllBare s'.gens) s1 := by
  have free : ∀ {b : Addr}, (H b ≠ none → False) → H b = none := fun {b} z => by
    cases q : H b with
    | none => rfl
    | some u => exact (z (by rw [q]; exact fun y => nomatch y)).elim
  have nsK : ∀ {b : Addr} {m : Str → Option Value}, s1.heap.Ns b m → (hidT s1.heap H).Ns b m := fun {b m} hm => by
    obtain ⟨o, es, ep, e, d, r⟩ := hm
    refine ⟨o, es, ep, hidT_get e (free fun z => ?_), d, r⟩
    obtain ⟨e1, _⟩ := hA b z
    subst e1
    rw [ha] at e
    cases e
    cases (show Data.seq vs.toArray _ = Data.dict es ep from d)
  have hKb : K.In (hidT s1.heap H) := fun b o e => hidT_get (KX b o e) (free fun z => by
    rw [(hA b z).2] at e
    cases e)
  obtain ⟨mc, l1, l2⟩ := hlim
  have hM : Mod K mg (hidT s1.heap H) := ⟨hKb, nsK hns, ⟨mb, nsK hb, hbb⟩, ⟨mc, nsK l1, l2⟩⟩
  have e0 : Env0 P w K mg (hidT s1.heap H) callerA [] s1 H := by
    refine ⟨rfl, hM, fun b o e => of_hidT e, Nat.le_of_eq (hidT_size _ _), trivial, fun b hb => ?_, hok, .of_eq hg⟩
    cases hb
  obtain ⟨md, g1, g2⟩ := hdg
  have run := (F _ hKb (nsK hns) ⟨md, nsK g1, g2⟩ (by
    obtain ⟨ms, g3⟩ := hsy
    exact ⟨ms, nsK g3⟩)).run callerA [] s1 H ⟨[.ref a], []⟩ [.ref a] [.ref a] _ _ rfl hr e0 (hbind s1 (.ref a)) (.cons rfl .nil) hsp
  refine codeAny_mono run fun r s' h => ?_
  match r, h with
  | .error e, h => exact (hC H e s' h).elim
  | .ok .next, h => exact h.elim
  | .ok .brk, h => exact h.elim
  | .ok .cont, h => exact h.elim
  | .ok (.ret u), h =>
    obtain ⟨v, H', os, bare, un, hok', rv, q⟩ := h
    have q1 : v = .bl true := q
    subst q1
    have q2 : u = Value.bool true := rv
    subst q2
    refine ⟨rfl, OldK.of_keep fun b o e => ?_, os, bare⟩
    cases hO b with
    | inl z => exact un.keep b o e z (fun y => by cases y) (fun y => by cases y)
    | inr z =>
      obtain ⟨ob, xs, z⟩ := z
      have e1 := (hok b _ z).1
      rw [e] at e1
      cases e1
      exact (hok' b _ (un.frzs b o _ z)).1

theorem law_callS (KX : K.In s1.heap) (hns : s1.heap.Ns mainGlobals mg) (hb : s1.heap.Ns builtinsNs mb)
    (hbb : ∀ x : Str, x ≠ "__name__" → mb x = bootBuiltins x) (hlim : s1.heap.NoLimit) (hg : s1.gens = #[])
    (ha : s1.heap.get? a = some { cls := .type "list", data := .seq vs.toArray }) (hi : IntsAre vs ns) (hl : ns.length ≤ sizeLine)
    (hr : Room k callerA)
    (hdg : s1.heap.NoDigits) (hsy : SysAt s1.heap)
    (F : ∀ base : Heap, K.In base → base.Ns mainGlobals mg → base.NoDigits → SysAt base → FnG P w K mg base C k fa fd [x] sp)
    (hbind : ∀ (s : Shared) (u : Value), BindsTo s fd ⟨[u], []⟩ [(x, u)])
    (hsp : ∀ H : Hp, Only H → SqL K H a (ns.map V.int) → sp [.ref a] H (fun v _ => v = .bl true) fun _ _ _ => False)
    (hC : ∀ H e s', C [] H s1 (fun _ _ _ => False) e s' → False) :
    codeAny (model P w) callerA (.call (.ref fa) ⟨[.ref a], []⟩)
      (fun r s' => r = .ok (.ret (.bool true)) ∧ OldK s1.heap s'.heap ∧ s'.os = s1.os ∧ AllBare s'.gens) s1 := by
  have core := headS_core KX hns hb hbb hlim hg ha hr hdg hsy F hbind hC
  cases hk : K.lookup a with
  | some o =>
    have e := KX a o hk
    rw [ha] at e
    cases e
    let H0 : Hp := fun _ => none
    have O0 : Only H0 := fun _ => Or.inl rfl
    refine core H0 O0 (hsp H0 O0 (Or.inr ⟨_, vs.toArray, _, hk, rfl, rfl, rfl, ?_, ?_⟩)) (fun b u z => nomatch z) (fun b z => (z rfl).elim)
    · rw [List.size_toArray, hi.length]
      exact hl
    · have rv := vals_ints hi
      simpa using rv
  | none =>
    let scr : HO := .frz { cls := .type "list", data := .seq vs.toArray } (.lst (ns.map V.int))
    let H1 : Hp := fun b => if b = a then some scr else none
    have H1a : H1 a = some scr := if_pos rfl
    have H1n : ∀ b, b ≠ a → H1 b = none := fun b h => if_neg h
    have O1 : Only H1 := fun b => by
      by_cases h : b = a
      · subst h
        exact Or.inr ⟨_, _, H1a⟩
      · exact Or.inl (H1n b h)
    refine core H1 O1 (hsp H1 O1 (Or.inl (Or.inr ⟨_, H1a⟩))) (fun b u z => ?_) (fun b z => ?_)
    · by_cases h : b = a
      · subst h
        rw [H1a] at z
        cases z
        refine ⟨ha, ?_, vs, _, vals_ints hi, ha⟩
        rw [List.length_map]
        exact hl
      · rw [H1n b h] at z
        cases z
    · by_cases h : b = a
      · subst h
        exact ⟨rfl, hk⟩
      · exact (z (H1n b h)).elim
end

theorem walk_ofS {l : PySem.W.OpenLaw} {n k : Nat} {q : Program} {loose : List Str} {XP : (Str → Option Value) → Heap → Prop}
    {YP : World → Heap → Prop} {d : DefRec} {K : Params → PySem.W.Frag} {C : World → CXT} {sp : World → Sp} {x : Str}
    (hi : importsNone q = true) (hn : l.most = some n) (hn2 : n ≤ sizeLine) (hdf : d.params.defaults = []) (hr : Room k callerA)
    (hY : ∀ (w : World) (h : Heap), YP w h → (K w.params).In h)
    (F : ∀ (w : World) (mg : Str → Option Value) (fa : Addr) (h : Heap), (K w.params).In h → h.Ns mainGlobals mg → mg d.name = some (.ref fa) →
      ∃ fd : FuncData, (∀ (s : Shared) (u : Value), BindsTo s fd ⟨[u], []⟩ [(x, u)]) ∧
        ∀ base : Heap, (K w.params).In base → base.Ns mainGlobals mg → base.NoDigits → SysAt base → FnG l.prog w (K w.params) mg base (C w) k fa fd [x] (sp w))
    (hsp : ∀ (w : World) (H : Hp) (a : Addr) (ns : List Int), ns.length ≤ n → Only H → SqL (K w.params) H a (ns.map V.int) →
      sp w [.ref a] H (fun v _ => v = .bl true) fun _ _ _ => False)
    (hC : ∀ (w : World) (H : Hp) (s : Shared) (e : Value) (s' : Shared), C w [] H s (fun _ _ _ => False) e s' → False) :
    PySem.W.WalkO q loose XP YP l.row.toRowW d [] (fun f vs => PySem.call f vs) := by
  apply Att.attach_call hn hdf
  intro w s0 s1 mg mb fa o pm cd doc a vs ns G Y ho hd hcd hmg hobj hints hlen hg
  have KX := hY w _ Y
  obtain ⟨fd, hb, hF⟩ := F w mg fa _ KX G.T.g hmg
  exact law_callS KX G.T.g G.T.b G.T.builtins G.T.nolimit hg hobj hints (Nat.le_trans hlen hn2) hr G.T.nodigits (sys_of (G.T.seer hi)) hF hb
    (fun H hO hS => hsp w H a ns hlen hO hS) (fun H e s' => hC w H s1 e s')
end Dl

/-! ## t[::-1] and sorted(t) of a tuple -/
namespace DlT
open PySem PyProof.Rows
open PySem.SeqAt
open PySem.AutoSeq1 (wpAny_loadPart')
open PySem.MeetsSeq PySem.MeetsSeq2 PySem.MeetsSeq3
open HT
section
variable {prog : Program} {w : World} {A : Around} {E : Value → Shared → Prop} {s : Shared}
theorem fm_congr {α β : Type} {f g : α → Option β} : ∀ {l : List α}, (∀ x ∈ l, f x = g x) → l.filterMap f = l.filterMap g
  | [], _ => rfl
  | x :: l, h => by
    rw [List.filterMap_cons, List.filterMap_cons, h x List.mem_cons_self, fm_congr fun y hy => h y (List.mem_cons_of_mem _ hy)]
theorem adjust_rev (n : Nat) : Builtin.Slice.sliceAdjust none none (-1) (n : Int) = ((n : Int) - 1, -1) := by
  unfold Builtin.Slice.sliceAdjust
  have h1 : (-1 : Int) < 0 := by omega
  simp only [h1, if_true]
theorem places_rev (n : Nat) : Builtin.Slice.slicePlaces ((n : Int) - 1) (-1) (-1) = n := by
  unfold Builtin.Slice.slicePlaces
  have h1 : ¬ ((-1 : Int) > 0) := by omega
  simp only [h1, if_false]
  split
  · have : ((n : Int) - 1 - -1 - 1) / (- -1) + 1 = (n : Int) := by
      rw [show (- -1 : Int) = 1 by decide, Int.ediv_one]
      omega
    rw [this]
    exact Int.toNat_natCast n
  · omega
theorem pick_rev (xs : Array Value) : ((List.range xs.size).filterMap fun (m : Nat) => xs[(((xs.size : Nat) : Int) - 1 + (m : Int) * -1).toNat]?).toArray = xs.toList.reverse.toArray := by
  have e : ((List.range xs.size).filterMap fun (m : Nat) => xs[(((xs.size : Nat) : Int) - 1 + (m : Int) * -1).toNat]?) = ((List.range xs.size).map fun k => xs.size - 1 - k).filterMap (xs[·]?) := by
    rw [List.filterMap_map]
    refine fm_congr fun m hm => ?_
    have := List.mem_range.mp hm
    have e2 : (((xs.size : Nat) : Int) - 1 + (m : Int) * -1).toNat = xs.size - 1 - m := by omega
    show xs[(((xs.size : Nat) : Int) - 1 + (m : Int) * -1).toNat]? = xs[xs.size - 1 - m]?
    rw [e2]
  rw [e, PySem.W.krv_range, List.filterMap_reverse, PySem.W.krv_all]
theorem sliceApplied_rev {sl : Addr} {vl vu vs : Value} {n : Nat} {Q : Int × Int × Nat → Shared → Prop} (hs : s.heap.IsSliceOf sl vl vu vs) (pl : IsPart vl none) (pu : IsPart vu none) (ps : IsPart vs (some (-1)))
    (h : Q ((n : Int) - 1, -1, n) s) : wpAny (model prog w) A (Builtin.Slice.sliceApplied (.ref sl) (pure (n : Int))) Q E s := by
  obtain ⟨os, hos, hcs, hds⟩ := id hs
  unfold Builtin.Slice.sliceApplied Builtin.Slice.sliceFields
  refine wpAny_bind (wpAny_bind (wpAny_field hos hds (x := vl) rfl (wpAny_bind (wpAny_field hos hds (x := vu) rfl (wpAny_bind (wpAny_field hos hds (x := vs) rfl (wpAny_pure ?_)))))))
  refine wpAny_bind (slicePart_ ps ?_)
  show wpAny _ _ (if ((-1 : Int) == 0) = true then _ else _) _ _ s
  rw [if_neg (by decide)]
  refine wpAny_bind (slicePart_ pl (wpAny_bind (slicePart_ pu (wpAny_bind (wpAny_pure ?_)))))
  show wpAny _ _ (match Builtin.Slice.sliceAdjust none none (-1) (n : Int) with | (lo, hi) => pure (lo, (-1 : Int), Builtin.Slice.slicePlaces lo hi (-1))) _ _ s
  rw [adjust_rev n]
  show wpAny _ _ (pure ((n : Int) - 1, (-1 : Int), Builtin.Slice.slicePlaces ((n : Int) - 1) (-1) (-1))) _ _ s
  rw [places_rev]
  exact wpAny_pure h
theorem getItem_tuple_rev {t sl : Addr} {items : Array Value} {vl vu vs : Value} {Q : Value → Shared → Prop} (ht : IsTup s.heap t items) (hs : s.heap.IsSliceOf sl vl vu vs) (pl : IsPart vl none) (pu : IsPart vu none) (ps : IsPart vs (some (-1)))
    (h : Q (.ref s.heap.objs.size) { s with heap := s.heap.push { cls := .type "tuple", data := .seq items.toList.reverse.toArray } })
    (hsz : items.size ≤ sizeLine) : wpAny (model prog w) A (getItem (.ref t) (.ref sl)) Q E s := by
  have htake : sizeOk (.seq items.toList.reverse.toArray) := by
    show items.toList.reverse.toArray.size ≤ sizeLine
    rw [List.size_toArray, List.length_reverse, Array.length_toList]
    exact hsz
  obtain ⟨os, hos, hcs, hds⟩ := id hs
  have hTs : s.TypeIs (.ref sl) "slice" := ⟨os, hos, hcs⟩
  unfold getItem
  try with_reducible refine wpAny_holding ?_
  first | refine wpAny_bind (wpAny_pure ?_) | skip
  refine wpAny_bind (wpAny_sequenceKey ht.typeIs (by decide) ?_)
  refine wpAny_bind (wpAny_callSpecial?_slot (name := Str.ofString "__getitem__") ht.typeIs PyProof.Rows.slot_tuple_getitem
    (wpAny_call_entry PyProof.Rows.slot_tuple_getitem ht.typeIs entry_tuple_getitem ?_ (args_tuple_getitem _ _)))
  show wpAny _ _ (Builtin.Tuple.tupleItemsOf (.ref t) >>= _) _ _ s
  refine wpAny_bind (tupleItemsOf_ ht ?_)
  refine wpAny_bind (wpAny_typeOf hTs ?_)
  rw [if_pos (by decide)]
  refine wpAny_bind (sliceApplied_rev hs pl pu ps ?_)
  have hno : ¬ ((((items.size : Nat) : Int) - 1 == 0 && (-1 : Int) == 1 && items.size == items.size) = true) := by
    intro q
    rw [Bool.and_eq_true, Bool.and_eq_true] at q
    exact absurd q.1.2 (by decide)
  show wpAny _ _ (if (((items.size : Nat) : Int) - 1 == 0 && (-1 : Int) == 1 && items.size == items.size) = true then _ else _) _ _ s
  rw [if_neg hno, pick_rev]
  first
    | exact wpAny_bind (m := Builtin.Tuple.tupleExact _) (wpAny_newObj_type (wpAny_pure ⟨_, rfl, wpAny_pure h⟩) htake)
    | exact wpAny_bind (m := Builtin.Tuple.tupleExact _) (wpAny_newObj_type (wpAny_bind (wpAny_pure (wpAny_pure ⟨_, rfl, wpAny_pure h⟩))) htake)
    | exact wpAny_bind (wpAny_bind (m := Builtin.Tuple.tupleExact _) (wpAny_newObj_type (wpAny_pure (wpAny_pure ⟨_, rfl, wpAny_pure h⟩)) htake))
    | exact wpAny_bind (wpAny_bind (m := Builtin.Tuple.tupleExact _) (wpAny_newObj_type (wpAny_pure ⟨_, rfl, wpAny_pure h⟩) htake))
theorem collect_tuple {l : Addr} {vs : List Value} {Q : List Value → Shared → Prop} (hl : IsTup s.heap l vs.toArray)
    (h : Q vs { s with heap := (s.heap.push (seqObj "list" #[] 0)).update s.heap.objs.size (Obj.mapSeq (· ++ vs.toArray)) }) (hsz : vs.length ≤ sizeLine := by size_fits) :
    wpAny (model prog w) A (collect (.ref l)) Q E s := by
  obtain ⟨o, ho, hc, n, hd⟩ := id hl
  unfold collect
  refine wpAny_bind (wpAny_runValue (codeAny_builtin entry_proto_collect' ?_))
  show wpAny _ _ (do again (.builtin "list.__iadd__" ⟨[← newList [], .ref l], []⟩)) _ _ s
  refine wpAny_bind (wpAny_newList (wpAny_pure ⟨Code.quiet_builtin _ (by decide +kernel), codeAny_builtin entry_list_iadd' ?_⟩))
  show wpAny _ _ (Builtin.List.listExtendWith (.ref s.heap.objs.size) (.ref l) (.ref s.heap.objs.size)) _ _ { s with heap := s.heap.push (seqObj "list" #[] 0) }
  unfold Builtin.List.listExtendWith
  have ho' : (s.heap.push (seqObj "list" #[] 0)).get? l = some o := Heap.get?_push_of_some _ ho
  refine wpAny_bind (wpAny_typeOf (T := "tuple") ⟨o, ho', hc⟩ ?_)
  have ht : (Value.type "tuple" == Value.type "tuple") = true := by rfl
  rw [if_pos (by rw [ht]; simp)]
  refine wpAny_bind (listItems_at ho' hd ?_)
  refine wpAny_bind (listItems_at (xs := #[]) (n := 0) (Heap.get?_push_size _ rfl) rfl ?_)
  rw [if_neg (by simp)]
  refine wpAny_bind (listUpdate_at (xs := #[]) (n := 0) (Heap.get?_push_size _ rfl) rfl ?_ (Nat.zero_le _) (by show (#[] ++ vs.toArray).size ≤ sizeLine + 1; simp only [Array.size_append, List.size_toArray, List.length_nil]; omega))
  refine wpAny_pure ?_
  show wpAny (model prog w) A (do
      let o ← load s.heap.objs.size
      match o.data with
      | .seq xs _ => pure xs.toList
      | _ => unsupported "internal:collect") Q E { s with heap := (s.heap.push (seqObj "list" #[] 0)).update s.heap.objs.size (Obj.mapSeq (· ++ vs.toArray)) }
  refine wpAny_bind (wpAny_load (get?_update_seq (Heap.get?_push_size _ rfl) _) ?_)
  show wpAny _ _ (pure ((#[] : Array Value) ++ vs.toArray).toList) Q E _
  rw [show ((#[] : Array Value) ++ vs.toArray).toList = vs by simp]
  exact wpAny_pure h
open SrtO Srt in
theorem sorted_ordT {l : Addr} {vs : List Value} {ltv : Value → Value → Bool} {Q : Value → Shared → Prop} (O : Swo ltv) (hl : IsTup s.heap l vs.toArray) (hz : vs.length ≤ sizeLine)
    (hS : 2 ≤ vs.length → ∀ (h₁ : Heap) (a : Addr), h₁.get? a = some (seqObj "list" vs.toArray 0) → (∀ b o, s.heap.get? b = some o → b ≠ a ∧ h₁.get? b = some o) → SortableO prog w A.in1.in1 { s with heap := h₁ } a vs ltv)
    (h : ∀ out : List Value, Srtd ltv out → Stb ltv out vs → Q (.ref (s.heap.objs.size + 1)) { s with heap := sortedAll s.heap vs out.toArray }) :
    wpAny (model prog w) A (call (.builtin "sorted") [.ref l]) Q E s := by
  refine Calls.call_function_entry kind_sorted plain_sorted entry_sorted (args_sorted1 _) ?_
  unfold Builtin.«sorted»
  refine wpAny_bind (m := checkCount "sorted" 1 1 _) (wpAny_pure ?_)
  refine wpAny_bind (collect_tuple hl ?_ hz)
  refine wpAny_bind (wpAny_newList ?_ hz)
  have hsz : ((s.heap.push (seqObj "list" #[] 0)).update s.heap.objs.size (Obj.mapSeq (· ++ vs.toArray))).objs.size = s.heap.objs.size + 1 := by
    rw [Heap.size_update, size_push']
  have hoL : (((s.heap.push (seqObj "list" #[] 0)).update s.heap.objs.size (Obj.mapSeq (· ++ vs.toArray))).push (seqObj "list" vs.toArray 0)).get? (s.heap.objs.size + 1) = some (seqObj "list" vs.toArray 0) := by
    rw [← hsz]; exact Heap.get?_push_size _ rfl
  have keep : ∀ b o, s.heap.get? b = some o → b ≠ s.heap.objs.size + 1 ∧ (((s.heap.push (seqObj "list" #[] 0)).update s.heap.objs.size (Obj.mapSeq (· ++ vs.toArray))).push (seqObj "list" vs.toArray 0)).get? b = some o := fun b o q => by
    have hlt : b < s.heap.objs.size := Heap.lt_size q
    refine ⟨Nat.ne_of_lt (Nat.lt_succ_of_lt hlt), Heap.get?_push_of_some _ ?_⟩
    rw [Heap.get?_update_ne _ _ _ _ (Nat.ne_of_lt hlt)]
    exact Heap.get?_push_of_some _ q
  show wpAny _ _ _ _ _ { s with heap := ((s.heap.push (seqObj "list" #[] 0)).update s.heap.objs.size (Obj.mapSeq (· ++ vs.toArray))).push (seqObj "list" vs.toArray 0) }
  rw [hsz]
  refine wpAny_bind (wpAny_holding (wpAny_call_entry slot_list_sort ⟨_, hoL, rfl⟩ entry_list_sort (list_sort_ord O hoL hz (fun h2 => hS h2 _ _ hoL keep) fun out hs hb => ⟨_, rfl, ?_⟩) (args_list_sort _)))
  exact wpAny_pure ⟨_, rfl, h out hs hb⟩
end
end DlT

namespace Dl
open PySem PySem.Spec PyProof.Rows L2
section
variable {X : Cx}
def tRevT (K : PySem.W.Frag) (te : TE) : TE := fun σ H Q => te σ H fun x H1 => ∃ a xs, x = .ref a ∧ SqT K H1 a xs ∧ ∀ p, H1 p = none → Q (.ref p) (upd H1 p (.tup xs.reverse))
theorem pe_revT {e : Expr} {te : TE} {k : Nat} {p1 p2 p3 pos : Pos} (he : PE X e te) : PE X (.Subscript e (.Slice none none (some (.UnaryOp .USub (.Constant (.int 1) k p1) p2)) p3) pos) (tRevT X.K te) := by
  refine ⟨fun pins s σ H Q I h => ?_⟩
  refine Subscript_ (thn (he.run pins s σ H _ I h) fun v s1 ⟨x, H1, I1, r1, q1⟩ => ?_)
  obtain ⟨a, xs, ex, hx, q⟩ := q1
  subst ex
  cases r1
  have hst : PO X (some (.UnaryOp .USub (.Constant (.int 1) k p1) p2)) (tPart (tUn (rU fun i => .int (-i)) (tC (.int 1)))) := po_some (pe_un un_neg pe_int)
  refine wpAny_Slice (thn (po_none.run pins s1 σ H1 (fun o H2 => o = none ∧ H2 = H1) I1 ⟨rfl, rfl⟩) fun vl s2 ⟨l, H2, I2, pl, el, e2⟩ => ?_)
  subst el e2
  refine thn (po_none.run pins s2 σ H2 (fun o H3 => o = none ∧ H3 = H2) I2 ⟨rfl, rfl⟩) fun vu s3 ⟨u, H3, I3, pu, eu, e3⟩ => ?_
  subst eu e3
  refine thn (hst.run pins s3 σ H3 (fun o H4 => o = some (-1) ∧ H4 = H3) I3 ⟨1, rfl, -1, rfl, rfl, rfl⟩) fun vs s4 ⟨o, H4, I4, ps, eo, e4⟩ => ?_
  subst eo e4
  have I5 : Inv X pins σ H4 { s4 with heap := s4.heap.push { cls := .type "slice", data := .fields #[vl, vu, vs] } } := I4.kept (t' := s4.toks) fun b ob q => Heap.get?_push_of_some _ q
  obtain ⟨its, r, ht, hz⟩ := I5.tuple hx
  have hlen := r.length
  show wpAny (model X.prog X.w) X.A (subscriptTail e (.Slice none none (some (.UnaryOp .USub (.Constant (.int 1) k p1) p2)) p3) (.ref a) (.ref s4.heap.objs.size)) (EP X pins σ Q) X.xe { s4 with heap := s4.heap.push { cls := .type "slice", data := .fields #[vl, vu, vs] } }
  refine tail_any (ops := [.ref a, .ref s4.heap.objs.size]) ht.typeIs (PyProof.Rows.slot_tuple_getitem.lookup) ?_ (by with_unfolding_all rfl)
  refine DlT.getItem_tuple_rev ht (Heap.IsSliceOf.new _ vl vu vs) pl pu ps ?_ (by rw [List.size_toArray]; omega)
  refine ⟨.ref _, _, I5.laid (t' := s4.toks) (o := .tup xs.reverse) (fun b ob q => Heap.get?_push_of_some _ q) (Nat.le_refl _) ?_, rfl, q _ (I5.hok.fresh (Nat.le_refl _))⟩
  exact ⟨by rw [List.length_reverse]; exact hz, _, r.reverse, IsTup.new _ _⟩
def rSortedTI (K : PySem.W.Frag) : List V → Hp → VK → Prop := fun vs H Q => ∃ (a : Addr) (ns : List Int), vs = [V.ref a] ∧ SqT K H a (ns.map V.int) ∧
  ∀ (ns' : List Int) (p : Addr), ns'.Perm ns → ns'.Pairwise (· ≤ ·) → H p = none → Q (.ref p) (upd H p (.lst (ns'.map V.int)))
theorem cr_sortedTI : CallR X (.builtin "sorted") (rSortedTI X.K) := by
  intro pins s σ H vs us Q I r h
  obtain ⟨a, ns, rfl, hs, q⟩ := h
  obtain ⟨its, rv, hl, hz⟩ := I.tuple hs
  rw [Vals.ref1 r]
  have hi := rv.ints
  refine DlT.sorted_ordT SrtO.swo_int hl (by rw [← rv.length]; exact hz) (fun h2 h₁ a' _ _ => SrtO.ints_sortable hi h2) fun out h1 h2 => ?_
  obtain ⟨k1, k2, k3⟩ := SrtO.ints_out hi h1 h2
  obtain ⟨ep, he'⟩ := PyProof.Rows.sortedAll_at s.heap its out.toArray
  have hlen : ((out.map SrtO.iv).map V.int).length ≤ sizeLine := by
    rw [List.length_map, k2.length_eq]
    rw [List.length_map] at hz
    exact hz
  exact ⟨.ref _, upd H (s.heap.objs.size + 1) (.lst ((out.map SrtO.iv).map V.int)), I.laid (t' := s.toks) (fun _ _ => PyProof.Rows.sortedAll_old) (Nat.le_succ _) ⟨hlen, out, ep, vals_of_ints k1, he'⟩, rfl, q _ _ k2 k3 (I.hok.fresh (Nat.le_succ _))⟩
end
section
variable {K : PySem.W.Frag} {W : Fx} {ρ : List Sk} {te : TE} {ds : List PyData}
theorem DqA.rev {D : Hp} : ∀ {vs : List V} {ds : List PyData}, DqA K D vs ds → DqA K D vs.reverse ds.reverse
  | _, _, .nil => .nil
  | _, _, .cons h1 h2 => by
    rw [List.reverse_cons, List.reverse_cons]
    exact h2.rev.app (.cons h1 .nil)
theorem ev_revT (h : EvD K W te ρ (.tuple ds)) : EvD K W (tRevT K te) ρ (.tuple ds.reverse) := fun D0 H0 D H σ e Q q =>
  h D0 H0 D H σ e _ fun v D1 H1 d s1 q1 p1 => by
    subst p1
    have o1 := s1.ok e.ok
    cases q1 with
    | tup h1 h2 =>
      refine ⟨_, _, rfl, same_t o1.sub h1, fun p hp => ?_⟩
      exact q _ _ _ _ (s1.trans e.ok (Step.made o1 hp)) (.tup (SqT.of upd_same) ((h2.up (same_new (o1.sub.free hp))).rev)) rfl
theorem evf_sortTI {PN : List Int → Prop} (h : EvN K W te ρ (fun d => ∃ ns : List Int, d = .tuple (ns.map .int) ∧ PN ns)) :
    EvF K W (tCB (rSortedTI K) (tCons te tNil)) ρ (fun ds => ∃ ns ns' : List Int, PN ns ∧ ns'.Perm ns ∧ ns'.Pairwise (· ≤ ·) ∧ ds = ns'.map .int) := fun D0 H0 D H σ e Q q =>
  h D0 H0 D H σ e _ fun v D1 H1 d s1 q1 ⟨ns, e1, p1⟩ => by
    subst e1
    have o1 := s1.ok e.ok
    cases q1 with
    | tup h1 h2 =>
      have ex := h2.isInts
      subst ex
      refine ⟨_, ns, rfl, same_t o1.sub h1, fun ns' p g1 g2 g3 => ?_⟩
      have s2 : Step W D H D1 (upd H1 p (.lst (ns'.map V.int))) := s1.trans e.ok (.keptH o1 (same_new g3))
      exact q p _ D1 _ _ s2 (fresh_of e.ok s1 g3) (o1.sub.free g3) upd_same (DqA.ints ns') ⟨ns, ns', p1, g1, g2, rfl⟩
theorem ev_catT {ta tb : TE} {xs ys : List PyData} (ha : EvD K W ta ρ (.tuple xs)) (hb : EvD K W tb ρ (.tuple ys)) (hz : xs.length + ys.length ≤ sizeLine) : EvD K W (tOp (rCatA K) ta tb) ρ (.tuple (xs ++ ys)) := fun D0 H0 D H σ e Q q =>
  ha D0 H0 D H σ e _ fun v D1 H1 d s1 q1 p1 => hb D0 H0 D1 H1 σ (e.step s1) _ fun u D2 H2 d2 s2 q2 p2 => by
    subst p1
    subst p2
    have s12 := s1.trans e.ok s2
    have o2 := s12.ok e.ok
    cases q1 with
    | tup h1 h2 =>
      cases q2 with
      | tup h3 h4 =>
        have h2' := h2.up s2.gro
        have l1 := h2.len
        have l3 := h4.len
        refine ⟨_, _, _, _, rfl, rfl, same_t (s2.gro.trans o2.sub) h1, same_t o2.sub h3, by omega, fun z => ?_, fun _ z => ?_, fun _ _ p hp => ?_⟩
        · have : xs = [] := List.length_eq_zero_iff.mp (by rw [← l1, z]; rfl)
          exact q _ D2 H2 _ s12 (.tup h3 h4) (by rw [this]; rfl)
        · have : ys = [] := List.length_eq_zero_iff.mp (by rw [← l3, z]; rfl)
          exact q _ D2 H2 _ s12 (.tup (same_t s2.gro h1) h2') (by rw [this, List.append_nil])
        · exact q _ _ _ _ (s12.trans e.ok (Step.made o2 hp)) (.tup (SqT.of upd_same) ((h2'.app h4).up (same_new (o2.sub.free hp)))) rfl
/-- a + b, told by what both are -/
theorem ev_catP {ta tb : TE} {PA PB : List PyData → Prop} (ha : EvN K W ta ρ (fun d => ∃ xs, d = .tuple xs ∧ PA xs)) (hb : EvN K W tb ρ (fun d => ∃ ys, d = .tuple ys ∧ PB ys)) (hz : ∀ xs ys, PA xs → PB ys → xs.length + ys.length ≤ sizeLine) :
    EvN K W (tOp (rCatA K) ta tb) ρ (fun d => ∃ xs ys, PA xs ∧ PB ys ∧ d = .tuple (xs ++ ys)) := fun D0 H0 D H σ e Q q =>
  ha D0 H0 D H σ e _ fun v D1 H1 d s1 q1 ⟨xs, p1, pa⟩ => hb D0 H0 D1 H1 σ (e.step s1) _ fun u D2 H2 d2 s2 q2 ⟨ys, p2, pb⟩ => by
    subst p1
    subst p2
    have s12 := s1.trans e.ok s2
    have o2 := s12.ok e.ok
    have hz := hz xs ys pa pb
    cases q1 with
    | tup h1 h2 =>
      cases q2 with
      | tup h3 h4 =>
        have h2' := h2.up s2.gro
        have l1 := h2.len
        have l3 := h4.len
        refine ⟨_, _, _, _, rfl, rfl, same_t (s2.gro.trans o2.sub) h1, same_t o2.sub h3, by omega, fun z => ?_, fun _ z => ?_, fun _ _ p hp => ?_⟩
        · have : xs = [] := List.length_eq_zero_iff.mp (by rw [← l1, z]; rfl)
          exact q _ D2 H2 _ s12 (.tup h3 h4) ⟨xs, ys, pa, pb, by rw [this]; rfl⟩
        · have : ys = [] := List.length_eq_zero_iff.mp (by rw [← l3, z]; rfl)
          exact q _ D2 H2 _ s12 (.tup (same_t s2.gro h1) h2') ⟨xs, ys, pa, pb, by rw [this, List.append_nil]⟩
        · exact q _ _ _ _ (s12.trans e.ok (Step.made o2 hp)) (.tup (SqT.of upd_same) ((h2'.app h4).up (same_new (o2.sub.free hp)))) ⟨xs, ys, pa, pb, rfl⟩
end
end Dl

/-! ## x == (), whatever stands in x -/
namespace DlE
open PySem PySem.SeqAt PyProof.Rows
open AutoSeq1 (wpAny_loadPart')
open MeetsSeq
section
theorem dict_eq_declines_tuple (l b : Addr) (es : Array DictEntry) (items2 : Array Value) (n n2 : Nat) (dd dd2 : Option Addr) (sl sl2 : Array (Option Value)) :
    Meets (Builtin.«dict.__eq__» ⟨[.ref l, .ref b], []⟩) (fun _ R s => s.heap.get? l = some { cls := .type "dict", dict := dd, data := .dict es n, slots := sl } ∧ s.heap.get? b = some { cls := .type "tuple", dict := dd2, data := .seq items2 n2, slots := sl2 } ∧ R (.ok (.ret .notImplemented)) s) :=
  .of_wp fun prog w A R s h => by obtain ⟨hp, g, d, tk, os⟩ := s; obtain ⟨hl, hb, h⟩ := h; have f1 := F.sub_tuple_dict; wp_walk using wpAny_loadPart' hl, wpAny_loadPart' hb; exact ⟨_, rfl, h⟩
theorem tuple_eq_declines_dict (l b : Addr) (items : Array Value) (es : Array DictEntry) (n n2 : Nat) (dd dd2 : Option Addr) (sl sl2 : Array (Option Value)) :
    Meets (Builtin.«tuple.__eq__» ⟨[.ref l, .ref b], []⟩) (fun _ R s => s.heap.get? l = some { cls := .type "tuple", dict := dd, data := .seq items n, slots := sl } ∧ s.heap.get? b = some { cls := .type "dict", dict := dd2, data := .dict es n2, slots := sl2 } ∧ R (.ok (.ret .notImplemented)) s) :=
  .of_wp fun prog w A R s h => by obtain ⟨hp, g, d, tk, os⟩ := s; obtain ⟨hl, hb, h⟩ := h; have f1 := F.sub_dict_tuple; wp_walk using wpAny_loadPart' hl, wpAny_loadPart' hb; exact ⟨_, rfl, h⟩
variable {A : Around} {s : Shared}
theorem rc_dict_tuple {l b : Addr} {o : Obj} {es : Array DictEntry} {n : Nat} {items2 : Array Value} (ho : s.heap.get? l = some o) (hc : o.cls = .type "dict") (hd : o.data = .dict es n) (hb : s.heap.IsTuple b items2) (hu : A.units < cLine) : RcAt A s (.ref l) (.ref b) false := fun prog w E Q h => by
  obtain ⟨cls, dd, data, sl⟩ := o
  obtain ⟨⟨cls2, dd2, data2, sl2⟩, ho2, hc2, n2, hd2⟩ := id hb
  simp only at hc hd hc2 hd2
  subst hc hd hc2 hd2
  have hne : l ≠ b := fun z => by
    rw [z, ho2] at ho
    injection ho with e
    injection e with e1
    exact absurd (Value.type.inj e1) (by decide)
  exact (rc_eq_decline_or (k := false) ⟨_, ho, rfl⟩ ⟨_, ho2, rfl⟩ (by decide) F.sub_tuple_dict F.slot_dict_eq F.slot_tuple_eq_refl
    (fun _ hq => call_meets F.slot_dict_eq ⟨_, ho, rfl⟩ F.entry_dict_eq (F.args_dict_eq_2 _ _) (dict_eq_declines_tuple l b es items2 n n2 dd dd2 sl sl2) ⟨ho, ho2, hq⟩)
    (fun _ hq => call_meets F.slot_tuple_eq_refl ⟨_, ho2, rfl⟩ F.entry_tuple_eq (F.args_tuple_eq_2 _ _) (tuple_eq_declines_dict b l items2 es n2 n dd2 dd sl2 sl) ⟨ho2, ho, hq⟩)
    (fun _ hq => wpAny_isSame_ref_other hne ho ho2 (by simp) hq) (.inr hu) h)
end
end DlE
namespace Dl
open PySem PySem.Spec PyProof.Rows L2
def nilD : PyData → Bool
  | .tuple [] => true
  | _ => false
section
variable {X : Cx}
def rEqU (K : PySem.W.Frag) : R2 := fun x y H Q => ∃ d, Dq K H x d ∧ (∃ b, y = .ref b ∧ SqT K H b []) ∧ (SeqAt.shaped d = true ∨ (∃ ds, d = .tuple ds) ∨ d = .dict []) ∧ Q (.bl (nilD d)) H
theorem op_eqU (hu : X.A.units + 64 < cLine) : OpR X (compareOp .Eq) (rEqU X.K) := by
  intro pins s σ H x y v u Q I rx ry h
  obtain ⟨d, hd, ⟨b, rfl, hb⟩, hk, q⟩ := h
  cases ry
  obtain ⟨its2, r2, p2, _⟩ := I.tuple hb
  cases r2
  by_cases hs : SeqAt.shaped d = true
  · obtain ⟨as, r1⟩ := Dq.reads I v hd rx
    obtain ⟨bs, r3⟩ := Dq.reads I (.ref b) (Dq.tup hb .nil) rfl
    refine SeqAt.compareEq_shaped r1 r3 hs (by decide +kernel) hu ⟨.bl (PyData.eqv d (.tuple [])), H, I, rfl, ?_⟩
    have : PyData.eqv d (.tuple []) = nilD d := by
      cases d with
      | tuple ds => cases ds <;> simp [PyData.eqv, PyData.eqvAll, nilD]
      | _ => simp [PyData.eqv, nilD]
    rw [this]
    exact q
  · rcases hk with hk | ⟨ds, rfl⟩ | rfl
    · exact absurd hk hs
    · cases hd with
      | tup h1 h2 =>
        cases rx
        obtain ⟨its, r1, p1, _⟩ := I.tuple h1
        have hlen := h2.len
        have hl2 := r1.length
        refine SeqAt.RcAt.tuples (e := fun _ => true) p1 p2 (by omega) (fun j _ j2 => absurd j2 (Nat.not_lt_zero _)) X.prog X.w _ _ ⟨.bl (nilD (.tuple ds)), H, I, ?_, q⟩
        cases ds with
        | nil =>
          have : its = [] := List.length_eq_zero_iff.mp (by rw [← hl2, hlen]; rfl)
          subst this
          rfl
        | cons e es =>
          obtain ⟨i0, its', e1⟩ : ∃ i0 its', its = i0 :: its' := by
            cases its with
            | nil => rw [hlen] at hl2; cases hl2
            | cons a b => exact ⟨a, b, rfl⟩
          subst e1
          show Value.bool _ = Value.bool _
          simp [nilD]
    · obtain ⟨a, ks, xs, ds, rfl, h1, _⟩ := hd.dictI
      cases rx
      obtain ⟨_, hne, vs, kv, o, es, ep, e1, ⟨c1, _, _⟩, e2, _, pr, _⟩ := h1.ok I.hok
      exact DlE.rc_dict_tuple e1 c1 e2 p2 (by omega) X.prog X.w _ _ ⟨.bl false, H, I, rfl, q⟩
end
section
variable {K : PySem.W.Frag} {W : Fx} {d : PyData}
theorem rd_eqU (h : SeqAt.shaped d = true ∨ (∃ ds, d = .tuple ds) ∨ d = .dict []) : RD K W (rEqU K) d (.tuple []) (· = .bool (nilD d)) := fun D H x y o hx hy Q q => by
  cases hy with
  | tup h1 h2 =>
    cases h2
    exact ⟨d, hx.up o.sub, ⟨_, rfl, same_t o.sub h1⟩, h, q _ D H _ (.refl o) (.bl _) rfl⟩
end
end Dl

/-! ## sets of texts that are walked -/
namespace DlS
open PySem PySem.Spec PyProof.Rows L2

/-! ### what a set of texts is -/
def keyS (e : Int × Value) : Str := match e.2 with | .str k _ => k | _ => Str.empty
def GoodS (w : World) (e : Int × Value) : Prop := ∃ k tk, e.2 = Value.str k tk ∧ e.1 = hashStr w k

/-- the set of ints at a: S its members, n their number; its table rises and can be walked -/
def SetS (w : World) (h : Heap) (a : Addr) (S : Str → Bool) (n : Nat) : Prop :=
  ∃ o es ep t, h.get? a = some o ∧ o.ExactSet ∧ o.data = .set es ep t ∧ (∀ e ∈ es.toList, GoodS w e) ∧ (es.toList.map keyS).Nodup ∧ (∀ k, S k = true ↔ k ∈ es.toList.map keyS) ∧
    es.size < scanBound ∧ t.fits es.size = true ∧ es.size = n ∧ Ris t.place.toList ∧ (w.params.followText "set-order" = true ∨ t.led = true)

section
variable {P : Program} {w : World} {h h' : Heap} {a : Addr} {S : Str → Bool} {n : Nat}

theorem SetS.at (R : SetS w h a S n) (k : ∀ o, h.get? a = some o → h'.get? a = some o) : SetS w h' a S n := by
  obtain ⟨o, es, ep, t, ho, r⟩ := R
  exact ⟨o, es, ep, t, k o ho, r⟩
theorem SetS.lt (R : SetS w h a S n) : a < h.objs.size := by
  obtain ⟨o, es, ep, t, ho, r⟩ := R
  exact Heap.lt_size ho
theorem SetS.congr {S' : Str → Bool} (R : SetS w h a S n) (e : ∀ k, S' k = S k) : SetS w h a S' n := by
  have q : S' = S := funext e
  rw [q]; exact R
theorem goodS_elems {l : List (Int × Value)} (g : ∀ e ∈ l, GoodS w e) : ElemsOf (PySem.strKind P w) l := fun e he => by
  obtain ⟨k, tk, h1, h2⟩ := g e he
  exact ⟨⟨k, by rw [h1]; exact strKind_is P w k tk, h2⟩, by rw [h1] <;> rfl⟩
theorem goodS_is {e : Int × Value} (g : GoodS w e) (k : Str) : (PySem.strKind P w).is k e.2 = true ↔ keyS e = k := by
  obtain ⟨k0, tk, h1, _⟩ := g
  unfold keyS
  rw [h1]
  show ((k0 == k) = true) ↔ k0 = k
  exact beq_iff_eq
theorem goodS_mem {l : List (Int × Value)} (g : ∀ e ∈ l, GoodS w e) (k : Str) : k ∈ l.map keyS ↔ ∃ e ∈ l, (PySem.strKind P w).is k e.2 = true := by
  rw [List.mem_map]
  constructor
  · rintro ⟨e, he, q⟩
    exact ⟨e, he, (goodS_is (g e he) k).2 q⟩
  · rintro ⟨e, he, q⟩
    exact ⟨e, he, (goodS_is (g e he) k).1 q⟩
theorem SetS.setOf (R : SetS w h a S n) : h.SetOf (PySem.strKind P w) a S n := by
  obtain ⟨o, es, ep, t, ho, hx, hd, g, nd, hm, hb, hf, hn, _⟩ := R
  exact ⟨o, es, ep, t, ho, hx, hd, goodS_elems g, fun k => (hm k).trans (goodS_mem g k), hb, hf, hn⟩
end

section
variable {P : Program} {w : World} {A : Around} {E : Value → Shared → Prop} {s : Shared} {a : Addr} {S : Str → Bool} {n : Nat}

/-! ### add -/
theorem storeS_at {h : Heap} {a : Addr} {o : Obj} {es es' : Array (Int × Value)} {ep : Nat} {t t' : SetTable} (ho : h.get? a = some o) (hd : o.data = .set es ep t) :
    (h.update a (Obj.putSet es' t')).get? a = some { o with data := .set es' (ep + 1) t' } := by
  have q := Heap.get?_update_self (Obj.putSet es' t') ho (by rw [putSet_of es' t' hd]; rfl)
  rw [putSet_of es' t' hd] at q
  exact q

theorem setS_add_tail {g : Bool → Sem Unit} (hg : ∀ (b : Bool) (s₁ : Shared) (Q' : Unit → Shared → Prop), Q' () s₁ → wpAny (model P w) A (g b) Q' E s₁)
    {o : Obj} {es : Array (Int × Value)} {ep : Nat} {t : SetTable} (ho : s.heap.get? a = some o) (hex : o.ExactSet) (hd : o.data = .set es ep t)
    {es1 : Array (Int × Value)} {t2 : SetTable} {S' : Str → Bool} (g1 : ∀ e ∈ es1.toList, GoodS w e) (nd1 : (es1.toList.map keyS).Nodup) (m1 : ∀ k, S' k = true ↔ k ∈ es1.toList.map keyS)
    (hb1 : es1.size < scanBound) (hf2 : t2.fits es1.size = true) (hr : Ris t2.place.toList) (hl : w.params.followText "set-order" = true ∨ t2.led = true) {wasDummy : Bool} {R : Option Bool → Shared → Prop}
    (hR : ∀ h', Heap.SameBut a s.heap h' → SetS w h' a S' es1.size → R (some true) { s with heap := h' }) :
    wpAny (model P w) A (do
        storeSet a es1 t2
        if (!wasDummy && t2.tooFull) = true then do
            g (relayAll t2 es1 (SetTable.grown es1.size)).2.2
            storeSet a (relayAll t2 es1 (SetTable.grown es1.size)).1 (relayAll t2 es1 (SetTable.grown es1.size)).2.1
            pure (some true)
          else pure (some true)) R E s := by
  refine wpAny_bind (wpAny_storeSet_of ho hd ?_ (fits_of_scanBound hb1))
  have ho1 := storeS_at (es' := es1) (t' := t2) ho hd
  have sb1 := Heap.SameBut.update s.heap a (Obj.putSet es1 t2)
  split
  · have pm := relayAll_perm t2 es1 (SetTable.grown es1.size)
    have hf3 := relayAll_fits t2 es1 (SetTable.grown es1.size)
    have hr3 := relayAll_ris t2 es1 (SetTable.grown es1.size)
    have hl3 := relayAll_led t2 es1 (SetTable.grown es1.size)
    generalize relayAll t2 es1 (SetTable.grown es1.size) = Z at pm hf3 hr3 hl3 ⊢
    obtain ⟨es2, t3, gave⟩ := Z
    dsimp only at pm hf3 hr3 hl3 ⊢
    have hsz : es2.size = es1.size := by rw [← Array.length_toList, pm.length_eq, Array.length_toList]
    have hb2 : es2.size < scanBound := by rw [hsz]; exact hb1
    refine wpAny_bind (hg _ _ _ ?_)
    refine wpAny_bind (wpAny_storeSet_of ho1 rfl ?_ (fits_of_scanBound hb2))
    have ho2 := storeS_at (es' := es2) (t' := t3) ho1 rfl
    refine wpAny_pure (hR _ (sb1.trans (Heap.SameBut.update _ a _)) ?_)
    exact ⟨_, es2, _, t3, ho2, hex, rfl, fun e he => g1 e (pm.mem_iff.mp he), (pm.map keyS).nodup_iff.mpr nd1, fun k => (m1 k).trans (pm.map keyS).mem_iff.symm, hb2, hf3, hsz, hr3,
      hl.imp id fun z => by rw [hl3]; exact z⟩
  · exact wpAny_pure (hR _ sb1 ⟨_, es1, _, t2, ho1, hex, rfl, g1, nd1, m1, hb1, hf2, rfl, hr, hl⟩)

theorem setS_add_hashed {k : Str} {tk : Tok} {Q : Bool → Shared → Prop} (R : SetS w s.heap a S n) (room : n + 1 < scanBound)
    (hQ : ∀ h', Heap.SameBut a s.heap h' → SetS w h' a (fun j => S j || decide (j = k)) (if S k = true then n else n + 1) → Q (!S k) { s with heap := h' }) :
    wpAny (model P w) A (setAddHashed a (.str k tk) ((PySem.strKind P w).hash k)) Q E s := by
  obtain ⟨o, es, ep, t, ho, hex, hd, g, nd, hm, hb, hf, hn, hr, hl⟩ := R
  have hkey : (PySem.strKind P w).is k (.str k tk) = true := strKind_is P w k tk
  have hsc : (Value.str k tk).scannable = true := rfl
  have hel : ElemsOf (PySem.strKind P w) es.toList := goodS_elems g
  unfold setAddHashed setAddHashedIn
  refine wpAny_holding (wpAny_bind (wpAny_setState_of ho hd hf ?_))
  dsimp only
  rw [byScan_of hsc hb hel]
  simp only [↓reduceIte]
  unfold setAddByScan
  refine wpAny_bind ?_
  refine wpAny_bind (wpAny_rule ?_)
  refine wpAny_bind (wpAny_setScan_of hkey ho hd hf hel ?_)
  cases hfi : List.findIdx? (fun e => (PySem.strKind P w).is k e.2) es.toList with
  | some j =>
    dsimp only
    obtain ⟨hj, pj, _⟩ := List.findIdx?_eq_some_iff_getElem.mp hfi
    have hSk : S k = true := (hm k).2 ((goodS_mem (P := P) (w := w) g k).2 ⟨es.toList[j], List.getElem_mem hj, pj⟩)
    refine wpAny_pure (wpAny_pure ?_)
    have q := hQ s.heap (Heap.SameBut.refl a s.heap) ⟨o, es, ep, t, ho, hex, hd, g, nd, fun i => by
      rw [Bool.or_eq_true, decide_eq_true_eq, ← hm i]
      exact ⟨fun z => z.elim id (fun e => e ▸ hSk), .inl⟩, hb, hf, by rw [if_pos hSk]; exact hn, hr, hl⟩
    rw [hSk] at q
    exact q
  | none =>
    dsimp only
    have hnk : k ∉ es.toList.map keyS := fun z => by
      obtain ⟨e, he, q⟩ := (goodS_mem (P := P) (w := w) g k).1 z
      have c := List.findIdx?_eq_none_iff.mp hfi e he
      rw [q] at c
      cases c
    have hSk : S k = false := by
      cases q : S k with
      | false => rfl
      | true => exact absurd ((hm k).1 q) hnk
    have hgw : ∀ (b : Bool) {s₁ : Shared} {Q' : Unit → Shared → Prop}, Q' () s₁ → wpAny (model P w) A (match b with | true => rule "set.scan.the-table-gave-way" | false => pure ()) Q' E s₁ :=
      fun b s₁ Q' q => by cases b <;> first | exact wpAny_pure q | exact wpAny_rule q
    have pm := layNew_perm t es ((PySem.strKind P w).hash k) (.str k tk)
    have hf1 := layNew_fits t es ((PySem.strKind P w).hash k) (.str k tk)
    have hr1 := layNew_ris t es ((PySem.strKind P w).hash k) (.str k tk) hr
    have hl1 := layNew_led t es ((PySem.strKind P w).hash k) (.str k tk)
    generalize layNew t es ((PySem.strKind P w).hash k) (.str k tk) = Z at pm hf1 hr1 hl1 ⊢
    obtain ⟨es1, t1, wasDummy, gave⟩ := Z
    dsimp only at pm hf1 hr1 hl1 ⊢
    rw [Array.toList_push] at pm
    have pc : es1.toList.Perm (((PySem.strKind P w).hash k, Value.str k tk) :: es.toList) := pm.trans (List.perm_append_singleton _ _)
    have pk : (es1.toList.map keyS).Perm (k :: es.toList.map keyS) := pc.map keyS
    have g1 : ∀ e ∈ es1.toList, GoodS w e := fun e he => by
      rcases List.mem_cons.mp (pc.mem_iff.mp he) with z | z
      · rw [z]; exact ⟨k, tk, rfl, rfl⟩
      · exact g e z
    have nd1 : (es1.toList.map keyS).Nodup := pk.nodup_iff.mpr (List.nodup_cons.mpr ⟨hnk, nd⟩)
    have m1 : ∀ i, (S i || decide (i = k)) = true ↔ i ∈ es1.toList.map keyS := fun i => by
      rw [Bool.or_eq_true, decide_eq_true_eq, hm i, pk.mem_iff, List.mem_cons]
      exact Or.comm
    have hsz : es1.size = n + 1 := by rw [← Array.length_toList, pc.length_eq, List.length_cons, Array.length_toList, hn]
    have hb1 : es1.size < scanBound := by rw [hsz]; exact room
    have hled : w.params.followText "set-order" = true ∨ t1.led = true := hl.imp id fun z => by rw [hl1]; exact z
    have fin : ∀ h', Heap.SameBut a s.heap h' → SetS w h' a (fun j => S j || decide (j = k)) es1.size → Q true { s with heap := h' } := fun h' sb r => by
      have q := hQ h' sb
      rw [hSk] at q
      rw [hsz] at r
      exact q r
    refine wpAny_bind (hgw _ ?_)
    split
    · refine wpAny_bind ?_
      rw [hashByValue_scannable 8 hsc]
      refine wpAny_pure ?_
      refine setS_add_tail ?_ ho hex hd g1 nd1 m1 hb1 ?_ ?_ ?_ ?_
      · intro b s₁ Q' q; cases b <;> first | exact wpAny_pure q | exact wpAny_rule q
      · first | (split <;> first | exact hf1 | exact SetTable.fits_plain_off hf1) | exact hf1
      · first | (split <;> exact hr1) | exact hr1
      · first | (split <;> exact hled) | exact hled
      · intro h' sb r; dsimp only; exact wpAny_pure (fin h' sb r)
    · refine wpAny_bind (wpAny_pure ?_)
      simp only [↓reduceIte]
      refine setS_add_tail ?_ ho hex hd g1 nd1 m1 hb1 hf1 hr1 hled ?_
      · intro b s₁ Q' q; cases b <;> first | exact wpAny_pure q | exact wpAny_rule q
      · intro h' sb r; dsimp only; exact wpAny_pure (fin h' sb r)

/-- found.add(k) -/
theorem setS_add {k : Str} {tk : Tok} {Q : Value → Shared → Prop} (R : SetS w s.heap a S n) (room : n + 1 < scanBound)
    (hQ : ∀ h', Heap.SameBut a s.heap h' → SetS w h' a (fun j => S j || decide (j = k)) (if S k = true then n else n + 1) → Q .none { s with heap := h', toks := s.toks + 1 }) :
    wpAny (model P w) A (call (.builtin "set.add") [.ref a, .str k tk]) Q E s := by
  have hS : s.heap.SetOf (PySem.strKind P w) a S n := R.setOf
  refine wpAny_call_entry F.slot_set_add hS.typeIs F.entry_set_add ?_ (F.args_set_add_2 _ _)
  unfold Builtin.«set.add» Builtin.Frozenset.oneOther
  simp only [List.isEmpty_nil, bind_assoc]
  unfold Builtin.Frozenset.addrOf setAdd
  refine wpAny_bind (wpAny_pure ?_)
  try dsimp only
  refine wpAny_bind (wpAny_pure ?_)
  try dsimp only
  refine wpAny_bind ?_
  refine wpAny_holding ?_
  refine wpAny_bind ((PySem.strKind P w).pyHash (strKind_is P w k tk) ?_)
  refine setS_add_hashed (s := { s with toks := s.toks + 1 }) R room fun h' sb r => ?_
  show wpAny _ _ (ret Value.none) _ _ _
  exact wpAny_pure ⟨_, rfl, hQ h' sb r⟩

/-! ### sorted -/
def valS : Value → Str
  | .str x _ => x
  | _ => Str.empty
theorem strs_ofS : ∀ (l : List Value), (∀ v ∈ l, ∃ k tk, v = Value.str k tk) → StrsAre l (l.map valS)
  | [], _ => .nil
  | v :: l, h => by
    obtain ⟨k, tk, rfl⟩ := h v List.mem_cons_self
    exact .cons k tk (strs_ofS l fun u hu => h u (List.mem_cons_of_mem _ hu))
theorem list_sort_str {a : Addr} {vs : List Value} {ss : List Str} {n : Nat} {Pf : Fin → Shared → Prop} (ho : s.heap.get? a = some (seqObj "list" vs.toArray n))
    (hS : StrsAre vs ss) (hL : vs.length ≤ sizeLine)
    (h : ∀ (out : Array Value) (ss' : List Str), StrsAre out.toList ss' → ss'.Perm ss → sortedS ss' = true → Pf (.done (.ret .none)) { s with heap := sortedHeap s.heap a vs out }) :
    wpAny (model P w) A (Builtin.«list.sort» ⟨[.ref a], []⟩) Pf E s := by
  refine list_sort_treeKAny strKind_oneLt ho hS.keysOf (fun v₁ v₂ rest e => keyKind_strs (by rw [← e]; exact hS)) hL fun st' hp hs => ?_
  obtain ⟨ss', h1, h2, h3⟩ := sorted_out_str hS hp hs
  exact h _ ss' h1 h2 h3
theorem sorted_setS {S : Str → Bool} {n : Nat} {Q : Value → Shared → Prop} (R : SetS w s.heap a S n) (hh : A.handled = none) (h64 : n < 1000)
    (hQ : ∀ s' p (out : Array Value) (c : Nat) (ns : List Str), (∀ b o, s.heap.get? b = some o → s'.heap.get? b = some o) → s'.gens = s.gens → s'.os = s.os → s.heap.objs.size ≤ p →
      s'.heap.get? p = some (seqObj "list" out c) → StrsAre out.toList ns → sortedS ns = true → ns.Nodup → (∀ k, k ∈ ns ↔ S k = true) → ns.length = n → Q (.ref p) s') :
    wpAny (model P w) A (call (.builtin "sorted") [.ref a]) Q E s := by
  obtain ⟨o, es, ep, t, ho, hex, hd, g, nd, hm, hb, hf, hn, hr, hl⟩ := R
  refine Calls.call_function_entry kind_sorted plain_sorted entry_sorted (args_sorted1 _) ?_
  unfold Builtin.«sorted»
  refine wpAny_bind (m := checkCount "sorted" 1 1 _) (wpAny_pure ?_)
  refine wpAny_bind (collect_set (A := A.in1) hh ⟨o, ho, hex.1, hd⟩ hf hb hr hl fun s1 vs k1 hz g1 o1 pm => ?_)
  have hvl : vs.length = n := by rw [pm.length_eq, List.length_map, Array.length_toList]; exact hn
  have hI : StrsAre vs (vs.map valS) := strs_ofS vs fun v hv => by
    obtain ⟨e, he, q⟩ := List.mem_map.mp (pm.mem_iff.mp hv)
    obtain ⟨k, tk, h1, _⟩ := g e he
    exact ⟨k, tk, by rw [← q]; exact h1⟩
  have pk : (vs.map valS).Perm (es.toList.map keyS) := by
    have q := pm.map valS
    rw [List.map_map] at q
    exact q
  refine wpAny_bind (wpAny_newList ?_ (by rw [hvl, sizeLine_eq]; omega))
  have hoL : (s1.heap.push (seqObj "list" vs.toArray 0)).get? s1.heap.objs.size = some (seqObj "list" vs.toArray 0) := Heap.get?_push_size _ rfl
  refine wpAny_bind (wpAny_holding (wpAny_call_entry slot_list_sort ⟨_, hoL, rfl⟩ entry_list_sort (list_sort_str hoL hI (by rw [hvl, sizeLine_eq]; omega) fun out ns' a1 a2 a3 => ⟨_, rfl, ?_⟩) (args_list_sort _)))
  obtain ⟨c, hc⟩ := sortedHeap_at (vs := vs) (out := out) hoL
  have pn : ns'.Perm (es.toList.map keyS) := a2.trans pk
  refine wpAny_pure ⟨_, rfl, hQ _ s1.heap.objs.size out c ns' (fun b u e => ?_) g1 o1 hz hc a1 a3 (pn.nodup_iff.mpr nd) (fun k => by rw [pn.mem_iff, ← hm k]) ?_⟩
  · have q := k1 b u e
    have hlt := Heap.lt_size q
    show (sortedHeap (s1.heap.push (seqObj "list" vs.toArray 0)) s1.heap.objs.size vs out).get? b = some u
    rw [sortedHeap_old (Nat.ne_of_lt hlt) (by rw [size_push']; exact Nat.lt_succ_of_lt hlt)]
    exact Heap.get?_push_of_some _ q
  · rw [pn.length_eq, List.length_map, Array.length_toList]; exact hn
end
end DlS

/-! ## {e for x in .. for y in ..}, e a text -/
namespace DlS
open PySem PySem.Spec PyProof.Rows L2
section
variable {P : Program} {w : World} {A : Around} {E : Value → Shared → Prop} {s : Shared}
theorem setS_fresh {h : Heap} (w : World) : SetS w (h.push { cls := .type "set", dict := none, data := .set #[] 0 (.fresh 0 0 (!w.params.followText "set-order")) }) h.objs.size (fun _ => false) 0 :=
  ⟨_, #[], 0, _, Heap.get?_push_size _ rfl, ⟨rfl, rfl, rfl⟩, rfl, (fun e he => by simp at he), (by simp), (fun k => by simp), (by decide), (by rfl), rfl, List.Pairwise.nil, by
    show _ ∨ (!w.params.followText "set-order") = true
    cases w.params.followText "set-order"
    · exact .inr rfl
    · exact .inl rfl⟩

end
/-- the set of truth values at a -/
def SetSO (w : World) (a : Addr) (S : Str → Bool) (n : Nat) : HO := .ext fun h => SetS w h a S n
theorem setSO_new {w : World} {P : Program} {H : Hp} {h : Heap} {a : Addr} {S : Str → Bool} {n : Nat} (R : SetS w h a S n) : ObjOk P w H h a (SetSO w a S n) := by
  have ⟨o, _, _, _, ho, _⟩ := R
  exact ⟨R, ⟨o, ho⟩, fun h1 h2 p k => SetS.at p k⟩
section
variable {X : Cx}
theorem setSO_get {pins : List (Addr × Obj)} {σ : L2.St} {H : Hp} {s : Shared} {a : Addr} {S : Str → Bool} {n : Nat} (I : Inv X pins σ H s) (ha : H a = some (SetSO X.w a S n)) : SetS X.w s.heap a S n := (I.hok a _ ha).1
/-- set.add of a truth value -/
theorem addS_ok {pins : List (Addr × Obj)} {σ : L2.St} {H : Hp} {s : Shared} {E : Value → Shared → Prop} {D : Addr} {S : Str → Bool} {n : Nat} {y : Str} {tk : Tok} {Q : Value → Shared → Prop} (I : Inv X pins σ H s) (hD : H D = some (SetSO X.w D S n)) (room : n + 1 < scanBound)
    (h : ∀ s', Inv X pins σ (upd H D (SetSO X.w D (fun j => S j || decide (j = y)) (if S y = true then n else n + 1))) s' → Q .none s') : wpAny (model X.prog X.w) X.A (call (.builtin "set.add") [.ref D, .str y tk]) Q E s := by
  have R := setSO_get I hD
  refine setS_add R room fun h' sb new => ?_
  have he : ∃ u, h'.get? D = some u := by
    have ⟨o, _, _, _, ho, _⟩ := new
    exact ⟨o, ho⟩
  exact h _ (I.write (e := D) (t' := s.toks + 1) (by rw [hD]; trivial) (.inl rfl) (fun b u hb hu => (sb.2 b hb).trans hu) he (setSO_new new))

end
theorem compTurn2S_out (elt t0 i0 t1 i1 : Expr) (ifs0 ifs1 : List Expr) (scope : Scope) (pos : Pos) (it acc : Value) (env : Env) :
    compTurn (.SetComp elt [⟨t0, i0, ifs0, 0⟩, ⟨t1, i1, ifs1, 0⟩] scope pos) 0 it acc env = (do
      standAt i0.pos
      match ← pyNext it with
      | none => pure (.done .next)
      | some v =>
        letOwnedTupleGo t0 it v
        assign t0 env v
        let mut ok := true
        for c in ifs0 do
          if ok then ok ← isTrue c env (eval c env)
        if ok then
          let x ← eval i1 env
          standAt i1.pos
          let x ← foldedSetIterable i1 env x
          let _ ← runOwn (.compStart (.SetComp elt [⟨t0, i0, ifs0, 0⟩, ⟨t1, i1, ifs1, 0⟩] scope pos) 1 (← holding [x] (pyIter x)) acc env) env
        again (.compLoop (.SetComp elt [⟨t0, i0, ifs0, 0⟩, ⟨t1, i1, ifs1, 0⟩] scope pos) 0 it acc env)) := by rfl
theorem compTurn2S_in (elt t0 i0 t1 i1 : Expr) (ifs0 ifs1 : List Expr) (scope : Scope) (pos : Pos) (it acc : Value) (env : Env) :
    compTurn (.SetComp elt [⟨t0, i0, ifs0, 0⟩, ⟨t1, i1, ifs1, 0⟩] scope pos) 1 it acc env = (do
      standAt i1.pos
      match ← pyNext it with
      | none => pure (.done .next)
      | some v =>
        letOwnedTupleGo t1 it v
        assign t1 env v
        let mut ok := true
        for c in ifs1 do
          if ok then ok ← isTrue c env (eval c env)
        if ok then
          (do let v ← eval elt env; standAt elt.pos; let _ ← call (.builtin "set.add") [acc, v])
        again (.compLoop (.SetComp elt [⟨t0, i0, ifs0, 0⟩, ⟨t1, i1, ifs1, 0⟩] scope pos) 1 it acc env)) := by rfl

section
variable {prog : Program} {w : World} {A : Around} {R : Result → Shared → Prop} {s : Shared} {elt t0 i0 t1 i1 : Expr} {ifs0 ifs1 : List Expr} {scope : Scope} {pos : Pos} {it acc : Value} {env : Env}
/-- the loop of the first clause -/
theorem compLoop2S_out (hs : ∀ x, foldedSetIterable i1 env x = pure x) (I : Nat → Shared → Prop)
    (turn : ∀ n s, I n s → wpAny (model prog w) A (pyNext it) (fun r s₁ => match r with
      | none => R (.ok .next) s₁
      | some v => wpAny (model prog w) A (letOwnedTupleGo t0 it v) (fun _ s₁' => wpAny (model prog w) A (assign t0 env v) (fun _ s₂ =>
          wpAny (model prog w) A (forIn ifs0 true fun c r => if r = true then do let ok ← isTrue c env (eval c env); pure (ForInStep.yield ok) else pure (ForInStep.yield r)) (fun ok s₃ =>
            if ok = true then wpAny (model prog w) A (eval i1 env) (fun x s₄ => wpAny (model prog w) A (pyIter x) (fun it1 s₅ =>
              codeAny (model prog w) A (.compStart (.SetComp elt [⟨t0, i0, ifs0, 0⟩, ⟨t1, i1, ifs1, 0⟩] scope pos) 1 it1 acc env) (fun r s' => match r with
                | .ok _ => ∃ m, m < n ∧ I m s'
                | .error _ => False) s₅) (notedBy (model prog w) A env fun e s' => R (.error e) s') s₄) (notedBy (model prog w) A env fun e s' => R (.error e) s') s₃
            else ∃ m, m < n ∧ I m s₃) (notedBy (model prog w) A env fun e s' => R (.error e) s') s₂) (notedBy (model prog w) A env fun e s' => R (.error e) s') s₁') (notedBy (model prog w) A env fun e s' => R (.error e) s') s₁) (notedBy (model prog w) A env fun e s' => R (.error e) s') s)
    (n : Nat) (h : I n s) :
    codeAny (model prog w) A (.compLoop (.SetComp elt [⟨t0, i0, ifs0, 0⟩, ⟨t1, i1, ifs1, 0⟩] scope pos) 0 it acc env) R s := by
  refine codeAny_loop rfl I (fun n s hI => ?_) n h
  show wpAny _ A ((compTurn (.SetComp elt [⟨t0, i0, ifs0, 0⟩, ⟨t1, i1, ifs1, 0⟩] scope pos) 0 it acc env).onRaise (fun x => do noteFrame x env; theTreesLotGoes x)) _ _ s
  refine wpAny_noted ?_
  rw [compTurn2S_out]
  refine wpAny_bind (wpAny_standAt (wpAny_bind (wpAny_mono (turn n s hI) (fun r s₁ h₁ => ?_) fun _ _ h' => h')))
  cases r with
  | none => exact wpAny_pure h₁
  | some v =>
    refine wpAny_bind (wpAny_mono h₁ (fun _ s₁' h₁' => ?_) fun _ _ h' => h')
    refine wpAny_bind (wpAny_mono h₁' (fun _ s₂ h₂ => wpAny_bind (wpAny_mono h₂ (fun ok s₃ h₃ => ?_) fun _ _ h' => h')) fun _ _ h' => h')
    cases ok with
    | false => exact wpAny_pure ⟨rfl, h₃⟩
    | true =>
      refine wpAny_bind (wpAny_mono h₃ (fun x s₄ h₄ => ?_) fun _ _ h' => h')
      refine wpAny_bind (wpAny_standAt (wpAny_bind (wpAny_of_eq (hs x) (wpAny_bind (wpAny_holding (wpAny_mono h₄ (fun it1 s₅ h₅ => ?_) fun _ _ h' => h'))))))
      refine wpAny_bind (wpAny_runOwn ?_)
      rw [Around.mark_none]
      refine codeAny_mono h₅ fun r s' hr => ?_
      cases r with
      | ok f =>
        first
          | exact wpAny_pure ⟨rfl, hr⟩
          | exact wpAny_bind (wpAny_pure (wpAny_pure ⟨rfl, hr⟩))
      | error e => exact hr.elim
/-- the loop of the second -/
theorem compLoop2S_in (I : Nat → Shared → Prop)
    (turn : ∀ n s, I n s → wpAny (model prog w) A (pyNext it) (fun r s₁ => match r with
      | none => R (.ok .next) s₁
      | some v => wpAny (model prog w) A (letOwnedTupleGo t1 it v) (fun _ s₁' => wpAny (model prog w) A (assign t1 env v) (fun _ s₂ =>
          wpAny (model prog w) A (forIn ifs1 true fun c r => if r = true then do let ok ← isTrue c env (eval c env); pure (ForInStep.yield ok) else pure (ForInStep.yield r)) (fun ok s₃ =>
            if ok = true then wpAny (model prog w) A (eval elt env) (fun x s₄ =>
              wpAny (model prog w) A (call (.builtin "set.add") [acc, x]) (fun _ s₅ => ∃ m, m < n ∧ I m s₅) (notedBy (model prog w) A env fun e s' => R (.error e) s') s₄) (notedBy (model prog w) A env fun e s' => R (.error e) s') s₃
            else ∃ m, m < n ∧ I m s₃) (notedBy (model prog w) A env fun e s' => R (.error e) s') s₂) (notedBy (model prog w) A env fun e s' => R (.error e) s') s₁') (notedBy (model prog w) A env fun e s' => R (.error e) s') s₁) (notedBy (model prog w) A env fun e s' => R (.error e) s') s)
    (n : Nat) (h : I n s) :
    codeAny (model prog w) A (.compLoop (.SetComp elt [⟨t0, i0, ifs0, 0⟩, ⟨t1, i1, ifs1, 0⟩] scope pos) 1 it acc env) R s := by
  refine codeAny_loop rfl I (fun n s hI => ?_) n h
  show wpAny _ A ((compTurn (.SetComp elt [⟨t0, i0, ifs0, 0⟩, ⟨t1, i1, ifs1, 0⟩] scope pos) 1 it acc env).onRaise (fun x => do noteFrame x env; theTreesLotGoes x)) _ _ s
  refine wpAny_noted ?_
  rw [compTurn2S_in]
  refine wpAny_bind (wpAny_standAt (wpAny_bind (wpAny_mono (turn n s hI) (fun r s₁ h₁ => ?_) fun _ _ h' => h')))
  cases r with
  | none => exact wpAny_pure h₁
  | some v =>
    refine wpAny_bind (wpAny_mono h₁ (fun _ s₁' h₁' => ?_) fun _ _ h' => h')
    refine wpAny_bind (wpAny_mono h₁' (fun _ s₂ h₂ => wpAny_bind (wpAny_mono h₂ (fun ok s₃ h₃ => ?_) fun _ _ h' => h')) fun _ _ h' => h')
    cases ok with
    | false => exact wpAny_pure ⟨rfl, h₃⟩
    | true =>
      exact wpAny_bind (wpAny_bind (wpAny_mono h₃ (fun x s₄ h₄ => wpAny_bind (wpAny_standAt (wpAny_bind (wpAny_mono h₄ (fun _ s₅ h₅ => wpAny_pure (wpAny_pure ⟨rfl, h₅⟩)) fun _ _ h' => h')))) fun _ _ h' => h'))
/-- the second clause's start -/
theorem compStart1S_ok (h0 : codeAny (model prog w) A (.compLoop (.SetComp elt [⟨t0, i0, ifs0, 0⟩, ⟨t1, i1, ifs1, 0⟩] scope pos) 1 it acc env) R s)
    (h : wpAny (model prog w) A (pyIter it) (fun it' s' => codeAny (model prog w) A (.compLoop (.SetComp elt [⟨t0, i0, ifs0, 0⟩, ⟨t1, i1, ifs1, 0⟩] scope pos) 1 it' acc env) R s')
      (notedBy (model prog w) A env fun x s' => R (.error x) s') s) :
    codeAny (model prog w) A (.compStart (.SetComp elt [⟨t0, i0, ifs0, 0⟩, ⟨t1, i1, ifs1, 0⟩] scope pos) 1 it acc env) R s := by
  refine codeAny_of_tree ?_
  show wpAny _ _ ((compStart (.SetComp elt [⟨t0, i0, ifs0, 0⟩, ⟨t1, i1, ifs1, 0⟩] scope pos) 1 it acc env).onRaise (fun x => do noteFrame x env; standAt theWindowsPlace)) _ _ s
  refine wpAny_notedAt ?_
  unfold compStart
  show wpAny _ _ (ask >>= _) _ _ s
  refine wpAny_bind (wpAny_askSetting (wpAny_ite ?_))
  split
  · first
      | exact wpAny_bind (wpAny_pure (wpAny_pure (And.intro rfl h0)))
      | exact wpAny_pure (And.intro rfl h0)
  · first
      | exact wpAny_bind (wpAny_rule (wpAny_bind (wpAny_standAt (wpAny_bind (wpAny_mono h (fun it' s' h' => wpAny_pure (And.intro rfl h')) fun _ _ x => x)))))
      | (refine wpAny_bind (wpAny_rule ?_); show wpAny _ _ (standAt i1.pos >>= _) _ _ s; exact wpAny_bind (wpAny_standAt (wpAny_bind (wpAny_mono h (fun it' s' h' => wpAny_pure (And.intro rfl h')) fun _ _ x => x))))
end

section
variable {X : Cx}
/-- [elt for tg in iter if .. for tg1 in iter1 if ..]: behind the first clause's store and tests the second source's own loop, from which Nx is reached. vs: the block's names; vs1: those of the second target -/
def tSc2 (w : World) (wi : TI) (g : TG) (tt : TT) (wi1 : TI) (g1 : TG) (tt1 : TT) (te : TE) (vs vs1 : List Nat) : TE := fun σ H Q => wi σ H fun J H1 => ∀ D, H1 D = none → ∃ W : Nat → Nat → Hp → Prop, (∃ m, W 0 m (upd H1 D (SetSO w D (fun _ => false) 0))) ∧ ∀ i m H, W i m H →
  (J.stop i H ∧ Q (.ref D) H) ∨ (J.go i H ∧ ∃ Nx : Hp → Prop, (∀ H', Nx H' → ∃ m', m' < m ∧ W (i + 1) m' H') ∧ ∀ x H', J.yld i H x H' → g x (wipe σ vs) H' fun σ2 H2 => wipe σ2 vs = wipe σ vs ∧ tt σ2 H2 fun b H3 =>
    if b = true then wi1 σ2 H3 fun J1 H4 => ∃ W1 : Nat → Nat → Hp → Prop, (∃ m, W1 0 m H4) ∧ ∀ j k H, W1 j k H →
      (J1.stop j H ∧ Nx H) ∨ (J1.go j H ∧ ∃ Nx1 : Hp → Prop, (∀ H', Nx1 H' → ∃ k', k' < k ∧ W1 (j + 1) k' H') ∧ ∀ x H', J1.yld j H x H' → g1 x (wipe σ2 vs1) H' fun σ3 H5 => wipe σ3 vs1 = wipe σ2 vs1 ∧ tt1 σ3 H5 fun b H6 =>
        if b = true then te σ3 H6 fun y H7 => ∃ (c : Str) (S : Str → Bool) (n : Nat), y = .str c ∧ H7 D = some (SetSO w D S n) ∧ n + 1 < scanBound ∧ Nx1 (upd H7 D (SetSO w D (fun j => S j || decide (j = c)) (if S c = true then n else n + 1))) else Nx1 H6)
    else Nx H3)
theorem sc2_core {pins : List (Addr × Obj)} {s : Shared} {σ : L2.St} {H : Hp} {Q : VK} {elt tg iter tg1 iter1 : Expr} {ifs ifs1 : List Expr} {scope : Scope} {own : List (Str × Nat)} {vs1 : List Nat} {pos pos' : Pos} {wi wi1 : TI} {g g1 : TG} {tt tt1 : TT} {te : TE} {use : Option (Value → Sem Unit)} {Qf : Value → Shared → Prop}
    (hc : X.calm = true) (hN : X.N.Nodup) (I : Inv X pins σ H s) (hi : PI X tg iter wi) (ok : BlkOk X.N X.env.scope scope own) (hv : ∀ i ∈ vs1, i ∈ own.map (·.2))
    (hg : ∀ (s : Shared) (H : Hp) (C : Addr) (cl : List (Str × Addr)) (fp : List Addr), PG (X.blk s H scope (compEnvC scope cl C X.env) fp) tg g) (ht : ∀ (s : Shared) (H : Hp) (C : Addr) (cl : List (Str × Addr)) (fp : List Addr), PTs (X.blk s H scope (compEnvC scope cl C X.env) fp) ifs tt)
    (he : ∀ (s : Shared) (H : Hp) (C : Addr) (cl : List (Str × Addr)) (fp : List Addr), PE (X.blk s H scope (compEnvC scope cl C X.env) fp) elt te) (hs : ∀ x, foldedSetIterable iter X.env x = pure x)
    (hi1 : ∀ (s : Shared) (H : Hp) (C : Addr) (cl : List (Str × Addr)) (fp : List Addr), PI (X.blk s H scope (compEnvC scope cl C X.env) fp) tg1 iter1 wi1)
    (hg1 : ∀ (s : Shared) (H : Hp) (C : Addr) (cl : List (Str × Addr)) (fp : List Addr), PG (X.blk s H scope (compEnvC scope cl C X.env) fp) tg1 g1)
    (ht1 : ∀ (s : Shared) (H : Hp) (C : Addr) (cl : List (Str × Addr)) (fp : List Addr), PTs (X.blk s H scope (compEnvC scope cl C X.env) fp) ifs1 tt1)
    (hs1 : ∀ env x, foldedSetIterable iter1 env x = pure x)
    (h : tSc2 X.w wi g tt wi1 g1 tt1 te (own.map (·.2)) vs1 σ H Q)
    (hRR : ∀ D C s' m H', Inv X pins σ H' s' → Q (.ref D) H' → s'.heap.Ns C m → FpOk X pins H' C → compPost (model X.prog X.w) X.A X.xe use Qf (.ref D) C (.ok .next) s') :
    wpAny (model X.prog X.w) X.A (comprehension (.SetComp elt [⟨tg, iter, ifs, 0⟩, ⟨tg1, iter1, ifs1, 0⟩] scope pos) scope X.env pos' (newSet (.type "set")) false (eval iter X.env) use) Qf X.xe s := by
  have hfree : ∀ y ∈ scope.names, y.2 = .free → ∃ c, X.env.cells.lookup y.1 = some c := fun y hy e => by
    rcases ok.free y hy e with k | k
    · exact I.ok.has _ (.inl k)
    · exact I.ok.has _ (.inr k)
  refine wpAny_comprehension_free (use := use) rfl hs (closure_ok hfree) ok.kind (fun y hy e => by rw [ok.uniq y hy, e])
    (thn (hi.run pins s σ H _ I h) fun xv s1 hx => thn hx fun itv s2 h2 => ?_)
  obtain ⟨it, fp, tn, J, H2, e, I2, T, st2, f2, q⟩ := h2
  subst e
  refine PpSet.newSet_ok (newEnv_comp ?_)
  generalize hD : s2.heap.objs.size = D
  have hDn : H2 D = none := I2.hok.fresh (Nat.le_of_eq hD)
  obtain ⟨W, ⟨m0, w0⟩, turn⟩ := q D hDn
  -- the new list
  generalize hs3 : ({ s2 with heap := s2.heap.push { cls := .type "set", dict := none, data := .set #[] 0 (.fresh 0 0 (!X.w.params.followText "set-order")) } } : Shared) = s3
  have I3 : Inv X pins σ (upd H2 D (SetSO X.w D (fun _ => false) 0)) s3 := by
    rw [← hs3]
    refine I2.laid (t' := s2.toks) (fun b o e => Heap.get?_push_of_some _ e) (Nat.le_of_eq hD) ?_
    rw [← hD]
    exact setSO_new (setS_fresh X.w)
  have h3 : s3.heap = s2.heap.push { cls := .type "set", dict := none, data := .set #[] 0 (.fresh 0 0 (!X.w.params.followText "set-order")) } := by rw [← hs3]
  have sz : ∀ b ∈ fp, b < s2.heap.objs.size := fun b hb => by
    obtain ⟨o, e, _⟩ := T.obj _ _ st2 b hb
    exact Heap.lt_size e
  have f3 : ∀ b ∈ fp, FpOk X pins (upd H2 D (SetSO X.w D (fun _ => false) 0)) b ∧ b < s3.heap.objs.size := fun b hb => by
    have hlt := sz b hb
    refine ⟨⟨?_, (f2 b hb).2⟩, by rw [h3, Heap.size_push]; exact Nat.lt_succ_of_lt hlt⟩
    rw [upd_ne (by rw [← hD]; exact Nat.ne_of_lt hlt)]
    exact (f2 b hb).1
  have st3 : tn 0 s3.heap := T.keep _ _ _ st2 fun b _ o e => by rw [h3]; exact Heap.get?_push_of_some _ e
  have I4 := block_start I3 ok hN f3
  have pg := hg s3 (upd H2 D (SetSO X.w D (fun _ => false) 0)) s3.heap.objs.size (cellsFrom (s3.heap.objs.size + 1) scope.names (cloFrom X.env.cells scope.names [])) fp
  have pt := ht s3 (upd H2 D (SetSO X.w D (fun _ => false) 0)) s3.heap.objs.size (cellsFrom (s3.heap.objs.size + 1) scope.names (cloFrom X.env.cells scope.names [])) fp
  have pe := he s3 (upd H2 D (SetSO X.w D (fun _ => false) 0)) s3.heap.objs.size (cellsFrom (s3.heap.objs.size + 1) scope.names (cloFrom X.env.cells scope.names [])) fp
  have pi1 := hi1 s3 (upd H2 D (SetSO X.w D (fun _ => false) 0)) s3.heap.objs.size (cellsFrom (s3.heap.objs.size + 1) scope.names (cloFrom X.env.cells scope.names [])) fp
  have pg1 := hg1 s3 (upd H2 D (SetSO X.w D (fun _ => false) 0)) s3.heap.objs.size (cellsFrom (s3.heap.objs.size + 1) scope.names (cloFrom X.env.cells scope.names [])) fp
  have pt1 := ht1 s3 (upd H2 D (SetSO X.w D (fun _ => false) 0)) s3.heap.objs.size (cellsFrom (s3.heap.objs.size + 1) scope.names (cloFrom X.env.cells scope.names [])) fp
  show codeAny _ _ (.compStart (.SetComp elt [⟨tg, iter, ifs, 0⟩, ⟨tg1, iter1, ifs1, 0⟩] scope pos) 0 (.ref it) (.ref D) (compEnvC scope (cellsFrom (s3.heap.objs.size + 1) scope.names (cloFrom X.env.cells scope.names [])) s3.heap.objs.size X.env)) (compPost (model X.prog X.w) X.A X.xe use Qf (.ref D) s3.heap.objs.size) { s3 with heap := pushCells (s3.heap.push { cls := .type "dict", data := .dict #[] }) scope.names }
  have nfp : ∀ b ∈ fp, (upd H2 D (SetSO X.w D (fun _ => false) 0)) b = none := fun b hb => (f3 b hb).1.1
  generalize hce : compEnvC scope (cellsFrom (s3.heap.objs.size + 1) scope.names (cloFrom X.env.cells scope.names [])) s3.heap.objs.size X.env = ce at I4 pg pt pe pi1 pg1 pt1 ⊢
  have cL : ce.locals = s3.heap.objs.size := by subst hce; rfl
  generalize hH3 : upd H2 D (SetSO X.w D (fun _ => false) 0) = H3 at I3 I4 pg pt pe pi1 pg1 pt1 w0 nfp f3
  generalize hs4 : ({ s3 with heap := pushCells (s3.heap.push { cls := .type "dict", data := .dict #[] }) scope.names } : Shared) = s4 at I4 ⊢
  have st4 : tn 0 s4.heap := T.keep _ _ _ st3 fun b _ o e => by rw [← hs4]; exact pushCells_keeps _ _ _ _ (Heap.get?_push_of_some _ e)
  have stat : ∀ {σ' : L2.St} {H' : Hp} {s' : Shared}, Inv (X.blk s3 H3 scope ce fp) [] σ' H' s' → (∀ b ∈ fp, H' b = none) → ∀ b ∈ fp, FpOk (X.blk s3 H3 scope ce fp) [] H' b := fun {σ' H' s'} I' hn b hb =>
    ⟨hn b hb, (I'.ok.exf b hb).1, I'.ok.exfs b hb, .inl hb, fun x c e => (I'.ok.exf b hb).2 x c e, fun p hp => absurd (show p ∈ ([] : List (Addr × Obj)) ++ [] from hp) (by simp)⟩
  have loop : codeAny (model X.prog X.w) X.A (.compLoop (.SetComp elt [⟨tg, iter, ifs, 0⟩, ⟨tg1, iter1, ifs1, 0⟩] scope pos) 0 (.ref it) (.ref D) ce) (compPost (model X.prog X.w) X.A X.xe use Qf (.ref D) s3.heap.objs.size) s4 := by
    refine compLoop2S_out (hs1 ce) (fun n s' => ∃ i H', Inv (X.blk s3 H3 scope ce fp) [] (wipe σ (own.map (·.2))) H' s' ∧ tn i s'.heap ∧ (∀ b ∈ fp, H' b = none) ∧ W i n H') ?_ m0 ⟨0, H3, I4, st4, nfp, w0⟩
    rintro n s5 ⟨i, H5, I5, st5, n5, w5⟩
    rcases turn i n H5 w5 with ⟨stop, qq⟩ | ⟨go, Nx, hNx, step⟩
    · have td := T.done (X.blk s3 H3 scope ce fp) rfl rfl rfl hc i [] s5 _ H5 (fun _ _ => False) I5 (stat I5 n5) st5 stop
      refine thnF td fun r s6 ⟨hr, I6⟩ => ?_
      subst hr
      -- back in the def's context
      have I7 : Inv X pins σ H5 s6 := I3.call' (ch := fp) I6.os I6.base I6.hok I6.bare fun b hb => ⟨(f3 b hb).1.2.2.2.1, (f3 b hb).1.2.1, (f3 b hb).1.2.2.2.2.1, (f3 b hb).1.2.2.2.2.2⟩
      have nC : H5 s3.heap.objs.size = none := by
        have z : H5 ce.locals = none := I6.free
        rw [cL] at z
        exact z
      obtain ⟨m, hn, _⟩ := I6.loc
      have hn : s6.heap.Ns ce.locals m := hn
      rw [cL] at hn
      exact hRR D s3.heap.objs.size s6 m H5 I7 qq hn (I3.fpOk (Nat.le_refl _) nC)
    · have ti := T.item (X.blk s3 H3 scope ce fp) rfl rfl rfl hc i [] s5 _ H5 (fun _ _ => False) I5 (stat I5 n5) st5 go
      refine thnF ti fun r s6 ⟨u, hr, h6⟩ => ?_
      subst hr
      refine thnF h6 fun _ s7 ⟨x, H7, I7, r7, y7, st7, n7⟩ => ?_
      have I7' := I7.pinned (stat I7 n7) (T.obj _ _ st7)
      refine thnF (pg.run _ s7 _ H7 x u _ I7' r7 (step x H7 y7)) fun _ s8 ⟨σ8, H8, I8, hw8, q8⟩ => ?_
      refine thnF (pt.run _ s8 σ8 H8 _ I8 q8) fun b s9 ⟨H9, I9, q9⟩ => ?_
      -- the turn's end, from any slots that know what the block knew at its start
      have fin : ∀ {σ9 : L2.St} {s' : Shared} {H' : Hp}, Inv (X.blk s3 H3 scope ce fp) ([] ++ pinsAt fp s7.heap) σ9 H' s' → (wipe σ (own.map (·.2))).length = σ9.length → (∀ (j : Nat) v, (wipe σ (own.map (·.2)))[j]? = some (some v) → σ9[j]? = some (some v)) → Nx H' →
          ∃ m, m < n ∧ ∃ i H', Inv (X.blk s3 H3 scope ce fp) [] (wipe σ (own.map (·.2))) H' s' ∧ tn i s'.heap ∧ (∀ b ∈ fp, H' b = none) ∧ W i m H' := fun {σ9 s' H'} I' hl hk nx => by
        obtain ⟨m', hm, w'⟩ := hNx H' nx
        have pin' : ∀ b ∈ fp, ∀ o, s7.heap.get? b = some o → s'.heap.get? b = some o ∧ H' b = none := fun b hb o e =>
          let z := I'.pin (b, o) (List.mem_append_right _ (List.mem_append_right _ (mem_pinsAt hb e)))
          ⟨z.1, z.2.1⟩
        refine ⟨m', hm, i + 1, H', (I'.unpinned (pins := [])).weak hl hk, T.keep _ _ _ st7 fun b hb o e => (pin' b hb o e).1, fun b hb => ?_, w'⟩
        obtain ⟨o, e, _⟩ := T.obj _ _ st7 b hb
        exact (pin' b hb o e).2
      have hl8 : (wipe σ (own.map (·.2))).length = σ8.length := by rw [← hw8, wipe_length]
      have hk8 : ∀ (j : Nat) v, (wipe σ (own.map (·.2)))[j]? = some (some v) → σ8[j]? = some (some v) := fun j v e => by
        rw [← hw8] at e
        exact (wipe_some e).1
      have hk9 : ∀ (j : Nat) v, (wipe σ (own.map (·.2)))[j]? = some (some v) → (wipe σ8 vs1)[j]? = some (some v) := fun j v e => by
        rw [← hw8] at e
        obtain ⟨e1, e2⟩ := wipe_some e
        rw [wipe_out fun z => e2 (hv j z)]
        exact e1
      cases b with
      | false =>
        simp only [Bool.false_eq_true, if_false] at q9 ⊢
        exact fin I9 hl8 hk8 q9
      | true =>
        simp only [if_true] at q9 ⊢
        refine thnF (pi1.run _ s9 σ8 H9 _ I9 q9) fun xv s10 hx => thnF hx fun itv s11 h11 => ?_
        obtain ⟨it1, fp1, tn1, J1, H11, e1, I11, T1, st11, f11, W1, ⟨m1, w1⟩, turn1⟩ := h11
        subst e1
        -- the inner loop
        have stat1 : ∀ {H' : Hp}, (∀ b ∈ fp1, H' b = none) → ∀ b ∈ fp1, FpOk (X.blk s3 H3 scope ce fp) ([] ++ pinsAt fp s7.heap) H' b := fun hn b hb => ⟨hn b hb, (f11 b hb).2⟩
        have loop1 : codeAny (model X.prog X.w) X.A (.compLoop (.SetComp elt [⟨tg, iter, ifs, 0⟩, ⟨tg1, iter1, ifs1, 0⟩] scope pos) 1 (.ref it1) (.ref D) ce)
            (fun r s' => match r with
              | .ok _ => ∃ m, m < n ∧ ∃ i H', Inv (X.blk s3 H3 scope ce fp) [] (wipe σ (own.map (·.2))) H' s' ∧ tn i s'.heap ∧ (∀ b ∈ fp, H' b = none) ∧ W i m H'
              | .error _ => False) s11 := by
          refine compLoop2S_in (fun k s' => ∃ j H', Inv (X.blk s3 H3 scope ce fp) ([] ++ pinsAt fp s7.heap) (wipe σ8 vs1) H' s' ∧ tn1 j s'.heap ∧ (∀ b ∈ fp1, H' b = none) ∧ W1 j k H') ?_ m1 ⟨0, H11, I11.weak (wipe_length _ _) (fun j v e => (wipe_some e).1), st11, fun b hb => (f11 b hb).1, w1⟩
          rintro k s12 ⟨j, H12, I12, st12, n12, w12⟩
          rcases turn1 j k H12 w12 with ⟨stop1, nx1⟩ | ⟨go1, Nx1, hNx1, step1⟩
          · refine thnF (T1.done (X.blk s3 H3 scope ce fp) rfl rfl rfl hc j _ s12 (wipe σ8 vs1) H12 (fun _ _ => False) I12 (stat1 n12) st12 stop1) fun r s13 ⟨hr, I13⟩ => ?_
            subst hr
            exact fin I13 (hl8.trans (wipe_length σ8 vs1).symm) hk9 nx1
          · refine thnF (T1.item (X.blk s3 H3 scope ce fp) rfl rfl rfl hc j _ s12 (wipe σ8 vs1) H12 (fun _ _ => False) I12 (stat1 n12) st12 go1) fun r s13 ⟨u1, hr, h13⟩ => ?_
            subst hr
            refine thnF h13 fun _ s14 ⟨x1, H14, I14, r14, y14, st14, n14⟩ => ?_
            have I14' := I14.pinned (stat1 n14) (T1.obj _ _ st14)
            refine thnF (pg1.run _ s14 (wipe σ8 vs1) H14 x1 u1 _ I14' r14 (step1 x1 H14 y14)) fun _ s15 ⟨σ15, H15, I15, hw15, q15⟩ => ?_
            refine thnF (pt1.run _ s15 σ15 H15 _ I15 q15) fun b1 s16 ⟨H16, I16, q16⟩ => ?_
            have fin1 : ∀ {s' : Shared} {H' : Hp}, Inv (X.blk s3 H3 scope ce fp) (([] ++ pinsAt fp s7.heap) ++ pinsAt fp1 s14.heap) σ15 H' s' → Nx1 H' → ∃ m, m < k ∧ ∃ j H', Inv (X.blk s3 H3 scope ce fp) ([] ++ pinsAt fp s7.heap) (wipe σ8 vs1) H' s' ∧ tn1 j s'.heap ∧ (∀ b ∈ fp1, H' b = none) ∧ W1 j m H' := fun {s' H'} I' nx => by
              obtain ⟨m', hm, w'⟩ := hNx1 H' nx
              have pin' : ∀ b ∈ fp1, ∀ o, s14.heap.get? b = some o → s'.heap.get? b = some o ∧ H' b = none := fun b hb o e =>
                let z := I'.pin (b, o) (List.mem_append_right _ (List.mem_append_right _ (mem_pinsAt hb e)))
                ⟨z.1, z.2.1⟩
              refine ⟨m', hm, j + 1, H', I'.unpinned.weak (by rw [← hw15, wipe_length]) (fun j v e => by rw [← hw15] at e; exact (wipe_some e).1), T1.keep _ _ _ st14 fun b hb o e => (pin' b hb o e).1, fun b hb => ?_, w'⟩
              obtain ⟨o, e, _⟩ := T1.obj _ _ st14 b hb
              exact (pin' b hb o e).2
            cases b1 with
            | false =>
              simp only [Bool.false_eq_true, if_false] at q16 ⊢
              exact fin1 I16 q16
            | true =>
              simp only [if_true] at q16 ⊢
              refine thnF (pe.run _ s16 σ15 H16 _ I16 q16) fun z s17 ⟨yv, H17, I17, r17, cb, S0, n0, ey, hD17, hz17, nx⟩ => ?_
              subst ey
              obtain ⟨tk, ez⟩ := r17
              subst ez
              exact addS_ok (X := X.blk s3 H3 scope ce fp) I17 hD17 hz17 fun s18 I18 => fin1 I18 nx
        exact compStart1S_ok loop1 (T1.self X.A 0 _ _ _ st11 loop1)
  exact PpSet.codeAny_compStart_set loop (T.self X.A 0 _ _ _ st4 loop)
/-- as a value -/
theorem pe_sc2 {elt tg iter tg1 iter1 : Expr} {ifs ifs1 : List Expr} {scope : Scope} {own : List (Str × Nat)} {vs1 : List Nat} {pos : Pos} {wi wi1 : TI} {g g1 : TG} {tt tt1 : TT} {te : TE} (hc : X.calm = true) (hN : X.N.Nodup) (hi : PI X tg iter wi) (ok : BlkOk X.N X.env.scope scope own) (hv : ∀ i ∈ vs1, i ∈ own.map (·.2))
    (hg : ∀ (s : Shared) (H : Hp) (C : Addr) (cl : List (Str × Addr)) (fp : List Addr), PG (X.blk s H scope (compEnvC scope cl C X.env) fp) tg g) (ht : ∀ (s : Shared) (H : Hp) (C : Addr) (cl : List (Str × Addr)) (fp : List Addr), PTs (X.blk s H scope (compEnvC scope cl C X.env) fp) ifs tt)
    (hi1 : ∀ (s : Shared) (H : Hp) (C : Addr) (cl : List (Str × Addr)) (fp : List Addr), PI (X.blk s H scope (compEnvC scope cl C X.env) fp) tg1 iter1 wi1)
    (hg1 : ∀ (s : Shared) (H : Hp) (C : Addr) (cl : List (Str × Addr)) (fp : List Addr), PG (X.blk s H scope (compEnvC scope cl C X.env) fp) tg1 g1) (ht1 : ∀ (s : Shared) (H : Hp) (C : Addr) (cl : List (Str × Addr)) (fp : List Addr), PTs (X.blk s H scope (compEnvC scope cl C X.env) fp) ifs1 tt1)
    (he : ∀ (s : Shared) (H : Hp) (C : Addr) (cl : List (Str × Addr)) (fp : List Addr), PE (X.blk s H scope (compEnvC scope cl C X.env) fp) elt te) (hs : ∀ x, foldedSetIterable iter X.env x = pure x := by intro _; rfl) (hs1 : ∀ env x, foldedSetIterable iter1 env x = pure x := by intro _ _; rfl) :
    PE X (.SetComp elt [⟨tg, iter, ifs, 0⟩, ⟨tg1, iter1, ifs1, 0⟩] scope pos) (tSc2 X.w wi g tt wi1 g1 tt1 te (own.map (·.2)) vs1) := by
  refine ⟨fun pins s σ H Q I h => ?_⟩
  rw [PpSet.eval_SetComp]
  refine sc2_core hc hN I hi ok hv hg ht he hs hi1 hg1 ht1 hs1 h fun D C s' m H' I' q hn f => ⟨m, hn, fun h'' sb => ?_⟩
  obtain ⟨f0, f1, f2, f3, f4, f5⟩ := f
  exact ⟨.ref D, H', I'.turned (t' := s'.toks) (fun b o hb e => (sb.2 b hb).trans e) f0 f1 f3 f4 f5, rfl, q⟩

end
end DlS

/-! ## sorted sets of texts in the logic -/
namespace Dl
open PySem PySem.Spec PyProof.Rows L2

/-! ### texts in order -/
def StrA (a b : Str) : Prop := a.cps.toList < b.cps.toList
def StrU (ns : List Str) : Prop := ns.Pairwise StrA
theorem str_inj {a b : Str} (h : a.cps.toList = b.cps.toList) : a = b := by
  obtain ⟨x⟩ := a
  obtain ⟨y⟩ := b
  have e : x = y := Array.toList_inj.mp h
  rw [e]
theorem strA_of {a b : Str} (h : ltCps b.cps.toList a.cps.toList = false) (hn : a ≠ b) : StrA a b := by
  rw [ltCps_eq] at h
  have h1 : ¬ b.cps.toList < a.cps.toList := of_decide_eq_false h
  have h2 : a.cps.toList ≤ b.cps.toList := List.not_lt.mp h1
  rcases Decidable.em (a.cps.toList < b.cps.toList) with z | z
  · exact z
  · exact absurd (str_inj (List.le_antisymm h2 (List.not_lt.mp z))) hn
theorem rising_nd : ∀ (p : Str) (r : List Str), risingS p r = true → (p :: r).Nodup → StrU (p :: r)
  | p, [], _, _ => List.pairwise_singleton ..
  | p, x :: r, h, nd => by
    unfold risingS at h
    rw [Bool.and_eq_true, Bool.not_eq_true'] at h
    have nd2 := (List.nodup_cons.mp nd).2
    have ih := rising_nd x r h.2 nd2
    have hpx : StrA p x := strA_of h.1 fun e => (List.nodup_cons.mp nd).1 (by rw [e]; exact List.mem_cons_self)
    refine List.pairwise_cons.mpr ⟨fun y hy => ?_, ih⟩
    rcases List.mem_cons.mp hy with e | e
    · rw [e]; exact hpx
    · exact List.lt_trans hpx ((List.pairwise_cons.mp ih).1 y e)
theorem sorted_nd : ∀ {ns : List Str}, sortedS ns = true → ns.Nodup → StrU ns
  | [], _, _ => .nil
  | p :: r, h, nd => rising_nd p r h nd
theorem strU_eq : ∀ {xs ys : List Str}, StrU xs → StrU ys → (∀ k, k ∈ xs ↔ k ∈ ys) → xs = ys
  | [], [], _, _, _ => rfl
  | [], y :: ys, _, _, h => absurd ((h y).mpr List.mem_cons_self) (by simp)
  | x :: xs, [], _, _, h => absurd ((h x).mp List.mem_cons_self) (by simp)
  | x :: xs, y :: ys, h1, h2, h => by
    have a1 := List.pairwise_cons.mp h1
    have a2 := List.pairwise_cons.mp h2
    have irr : ∀ k : Str, ¬ StrA k k := fun k => List.lt_irrefl _
    have e : x = y := by
      rcases List.mem_cons.mp ((h x).mp List.mem_cons_self) with z | z
      · exact z
      · rcases List.mem_cons.mp ((h y).mpr List.mem_cons_self) with z2 | z2
        · exact z2.symm
        · exact absurd (List.lt_trans (a2.1 x z) (a1.1 y z2)) (irr y)
    subst e
    have := strU_eq a1.2 a2.2 fun k => by
      constructor
      · intro m
        rcases List.mem_cons.mp ((h k).mp (List.mem_cons_of_mem _ m)) with z | z
        · exact absurd (a1.1 k m) (by rw [z]; exact irr _)
        · exact z
      · intro m
        rcases List.mem_cons.mp ((h k).mpr (List.mem_cons_of_mem _ m)) with z | z
        · exact absurd (a2.1 k m) (by rw [z]; exact irr _)
        · exact z
    rw [this]

section
variable {X : Cx}
/-- sorted(a set of texts) -/
def rSortedS (w : World) : List V → Hp → VK → Prop := fun vs H Q => ∃ (a : Addr) (S : Str → Bool) (n : Nat), vs = [V.ref a] ∧ H a = some (DlS.SetSO w a S n) ∧ n < 1000 ∧
  ∀ (ns : List Str) (p : Addr), StrU ns → (∀ k, k ∈ ns ↔ S k = true) → ns.length = n → H p = none → Q (.ref p) (upd H p (.lst (ns.map V.str)))
theorem cr_sortedS (hc : X.calm = true) : CallR X (.builtin "sorted") (rSortedS X.w) := by
  intro pins s σ H vs us Q I r h
  obtain ⟨a, S, n, rfl, ha, h64, q⟩ := h
  have R := DlS.setSO_get I ha
  rw [Vals.ref1 r]
  refine DlS.sorted_setS R (I.ok.hd hc) h64 fun s' p out c ns k g o hp hg hi hs nd hm hl => ?_
  have hlen : (ns.map V.str).length ≤ sizeLine := by rw [List.length_map, hl, sizeLine_eq]; omega
  have hn : H p = none := I.hok.fresh hp
  have J : Inv X pins σ (upd H p (.lst (ns.map V.str))) { s with heap := s'.heap, gens := s'.gens, drawn := s'.drawn, toks := s'.toks } :=
    I.call (ch := []) (Un.laid k hp hn) (I.hok.laid k hp ⟨hlen, out.toList, c, vals_of_strs hi, hg⟩) (by rw [g]; exact I.bare) (fun _ z => nomatch z)
  have e : s' = { s with heap := s'.heap, gens := s'.gens, drawn := s'.drawn, toks := s'.toks } := by
    cases s'
    cases s
    cases o
    rfl
  rw [e]
  exact ⟨.ref p, _, J, rfl, q ns p (sorted_nd hs nd) hm hl hn⟩
end

section
variable {K : PySem.W.Frag} {W : Fx} {ρ : List Sk} {wi wi1 : TI} {g g1 : TG} {vs vs1 : List Nat} {te : TE} {ds : List PyData}
/-- sorted({e for x in .. for y in ..}), e a text -/
theorem evf_sortS2 {w : World} {inn : PyData → List PyData} {f : PyData → PyData → Str} (hv : ∀ v ∈ vs, v < ρ.length) (hv1 : ∀ v ∈ vs1, v < ρ.length) (hI : EvI K W wi ρ (· = ds)) (hn : (ds.flatMap fun d => (inn d).map (f d)).length ≤ 900)
    (hs : ∀ d ∈ ds, ∃ ρ' js, (∀ j ∈ js, j ∈ vs) ∧ ρ'.length = ρ.length ∧ noOwn ρ' = true ∧ EvG K W g (wipeR ρ vs) d ρ' js ∧ EvI K W wi1 ρ' (· = inn d) ∧
      ∀ y ∈ inn d, ∃ ρ2 js2, (∀ j ∈ js2, j ∈ vs1) ∧ EvG K W g1 (wipeR ρ' vs1) y ρ2 js2 ∧ EvD K W te ρ2 (.str (f d y))) :
    EvF K W (tCB (rSortedS w) (tCons (DlS.tSc2 w wi g tYes wi1 g1 tYes te vs vs1) tNil)) ρ (fun es => ∃ ns : List Str, es = ns.map .str ∧ StrU ns ∧ ns.length ≤ (ds.flatMap fun d => (inn d).map (f d)).length ∧ ∀ k, k ∈ ns ↔ k ∈ ds.flatMap fun d => (inn d).map (f d)) := fun D0 H0 D H σ e Q q => by
  refine hI D0 H0 D H σ e _ fun J D1 H1 ds' s1 wk p => ?_
  subst p
  intro L hL
  have e1 := e.step s1
  have o1 := e1.ok
  have hHL : H L = none := fresh_of e.ok s1 hL
  have hwL : ¬ W.adr L := fun hw => W.has H1 L s1.inv hw hL
  let Sm (D2 H2 : Hp) (acc : List Str) : Prop := ∃ S n, Step W D1 H1 D2 H2 ∧ D2 L = none ∧ H2 L = some (DlS.SetSO w L S n) ∧ (∀ k, S k = true ↔ k ∈ acc) ∧ n ≤ acc.length
  let out (i : Nat) : List Str := (ds'.take i).flatMap fun d => (inn d).map (f d)
  have outs : ∀ {i : Nat} {d : PyData}, ds'[i]? = some d → out (i + 1) = out i ++ (inn d).map (f d) := fun {i d} h => by
    show (ds'.take (i + 1)).flatMap _ = (ds'.take i).flatMap _ ++ _
    rw [List.take_add_one, h, List.flatMap_append]
    simp
  have outle : ∀ {i : Nat} {d : PyData} (j : Nat), ds'[i]? = some d → (out i ++ ((inn d).take j).map (f d)).length ≤ 900 := fun {i d} j h => by
    refine Nat.le_trans ?_ hn
    have e1 : (ds'.flatMap fun d => (inn d).map (f d)) = out (i + 1) ++ (ds'.drop (i + 1)).flatMap fun d => (inn d).map (f d) := by
      show _ = (ds'.take (i + 1)).flatMap _ ++ _
      rw [← List.flatMap_append, List.take_append_drop]
    rw [e1, outs h, List.length_append, List.length_append, List.length_append, List.length_map, List.length_map, List.length_take]
    omega
  refine ⟨fun i m H2 => m = ds'.length - i ∧ i ≤ ds'.length ∧ ∃ D2, Sm D2 H2 (out i), ⟨_, rfl, Nat.zero_le _, D1, fun _ => false, 0, .keptH o1 (same_new hL), o1.sub.free hL, upd_same, fun k => ?_, Nat.zero_le _⟩, ?_⟩
  · show false = true ↔ k ∈ []
    simp
  rintro i m H2 ⟨rfl, hi, D2, S2, n2, s2, d2, l2, q2, z2⟩
  have e2 := e1.step s2
  by_cases hlt : i < ds'.length
  · have hd : ds'[i]? = some ds'[i] := List.getElem?_eq_getElem hlt
    generalize ds'[i] = d at hd
    obtain ⟨hgo, hy⟩ := (wk i D2 H2 e2.ok s2.gro).1 _ hd
    refine Or.inr ⟨hgo, fun H' => i + 1 ≤ ds'.length ∧ ∃ D2, Sm D2 H' (out (i + 1)), fun H' h' => ⟨_, by omega, rfl, h'⟩, fun x H3 y => ?_⟩
    obtain ⟨D3, s3, qx⟩ := hy x H3 y
    obtain ⟨ρ', js, hjs, hlen, hno, hg, hI1, hin⟩ := hs d (List.mem_of_getElem? hd)
    refine hg D0 H0 D3 H3 _ ((e2.step s3).wipe vs hv) x qx _ fun σ4 D4 H4 s4 e4 l4 c4 => ⟨?_, ?_⟩
    · rw [wipe_eq l4 hjs c4, wipe_idem]
    unfold tYes
    show (if true = true then _ else _)
    rw [if_pos rfl]
    refine hI1 D0 H0 D4 H4 σ4 e4 _ fun J1 D5 H5 es s5 wk1 p1 => ?_
    subst p1
    have sA : Step W D2 H2 D5 H5 := (s3.trans e2.ok s4).trans e2.ok s5
    have e5 := e4.step s5
    refine ⟨fun j k H6 => k = (inn d).length - j ∧ j ≤ (inn d).length ∧ ∃ D6, Same D5 D6 ∧ Sm D6 H6 (out i ++ ((inn d).take j).map (f d)), ⟨_, rfl, Nat.zero_le _, D5, Same.refl _, S2, n2, s2.trans o1 sA, sA.new L d2 (by rw [l2]; exact fun z => nomatch z), sA.off L _ hwL l2, ?_, ?_⟩, ?_⟩
    · rw [List.take_zero, List.map_nil, List.append_nil]
      exact q2
    · rw [List.take_zero, List.map_nil, List.append_nil]
      exact z2
    rintro j k H6 ⟨rfl, hj, D6, g6, S6, n6, s6, d6, l6, q6, z6⟩
    have e6 : Env K W D0 H0 D6 H6 σ4 ρ' := e5.off hno (e1.st.trans e.ok0 s6) g6
    by_cases hjl : j < (inn d).length
    · have hz : (inn d)[j]? = some (inn d)[j] := List.getElem?_eq_getElem hjl
      generalize (inn d)[j] = z at hz
      obtain ⟨hgo1, hy1⟩ := (wk1 j D6 H6 e6.ok g6).1 _ hz
      refine Or.inr ⟨hgo1, fun H' => j + 1 ≤ (inn d).length ∧ ∃ D6, Same D5 D6 ∧ Sm D6 H' (out i ++ ((inn d).take (j + 1)).map (f d)), fun H' h' => ⟨_, by omega, rfl, h'⟩, fun x1 H7 y1 => ?_⟩
      obtain ⟨D7, s7, qx1⟩ := hy1 x1 H7 y1
      obtain ⟨ρ2, js2, hjs2, hg1, hte⟩ := hin z (List.mem_of_getElem? hz)
      refine hg1 D0 H0 D7 H7 _ ((e6.step s7).wipe vs1 (fun v h => by rw [hlen]; exact hv1 v h)) x1 qx1 _ fun σ8 D8 H8 s8 e8 l8 c8 => ⟨?_, ?_⟩
      · rw [wipe_eq l8 hjs2 c8, wipe_idem]
      show (if true = true then _ else _)
      rw [if_pos rfl]
      refine hte D0 H0 D8 H8 σ8 e8 _ fun v D9 H9 dv s9 qv pv => ?_
      subst pv
      cases qv
      have sB : Step W D6 H6 D9 H9 := (s7.trans e6.ok s8).trans e6.ok s9
      have l9 : H9 L = some (DlS.SetSO w L S6 n6) := sB.off L _ hwL l6
      have n9 : D9 L = none := sB.new L d6 (by rw [l6]; exact fun z => nomatch z)
      have sC : Step W D1 H1 D9 H9 := s6.trans o1 sB
      have le6 := outle j hd
      refine ⟨f d z, S6, n6, rfl, l9, ?_, hjl, D9, g6.trans sB.gro, _, _, ⟨sC.gro, fun b u z => ?_, fun b u hw z => ?_, sC.new, ?_⟩, n9, upd_same, fun k => ?_, ?_⟩
      · unfold scanBound
        omega
      · rw [upd_ne (fun w => by rw [w, n9] at z; cases z)]
        exact sC.sub b u z
      · rw [upd_ne (fun w => by rw [w, hL] at z; cases z)]
        exact sC.off b u hw z
      · refine W.keep H9 _ sC.inv fun b u hb z => ?_
        rw [upd_ne (fun w => hwL (by rw [← w]; exact hb))]
        exact z
      · rw [List.take_add_one, hz]
        show (S6 k || decide (k = f d z)) = true ↔ k ∈ (out i ++ ((inn d).take j ++ [z]).map (f d))
        rw [List.map_append, ← List.append_assoc, List.mem_append, Bool.or_eq_true, q6 k, decide_eq_true_eq]
        simp
      · rw [List.take_add_one, hz]
        show _ ≤ (out i ++ ((inn d).take j ++ [z]).map (f d)).length
        rw [List.map_append, ← List.append_assoc, List.length_append]
        have : ([z].map (f d)).length = 1 := rfl
        rw [this]
        split <;> omega
    · have hje : j = (inn d).length := by omega
      subst hje
      refine Or.inl ⟨(wk1 _ D6 H6 e6.ok g6).2 (Nat.le_refl _), hlt, D6, S6, n6, s6, d6, l6, ?_⟩
      rw [outs hd]
      rw [List.take_length] at q6 z6
      exact ⟨q6, z6⟩
  · have hie : i = ds'.length := by omega
    subst hie
    refine Or.inl ⟨(wk _ D2 H2 e2.ok s2.gro).2 (Nat.le_refl _), ?_⟩
    have eo : out ds'.length = ds'.flatMap fun d => (inn d).map (f d) := by
      show (ds'.take ds'.length).flatMap _ = _
      rw [List.take_length]
    rw [eo] at q2 z2
    refine ⟨L, S2, n2, rfl, l2, by omega, fun ns p h1 h2 h3 hp => ?_⟩
    have sD := s1.trans e.ok s2
    have o2 := e2.ok
    exact q p _ D2 _ _ (sD.trans e.ok (.keptH o2 (same_new hp))) (fresh_of e.ok sD hp) (o2.sub.free hp) upd_same (DqA.strs ns) ⟨ns, rfl, h1, by rw [h3]; exact z2, fun k => (h2 k).trans (q2 k)⟩
end
end Dl

/-! ## dicts as data, sorted dicts, sorted lists of tuples of ints -/
namespace Dl
open PySem PySem.Spec PyProof.Rows L2

theorem kD_inj : ∀ {a b : Key}, kD a = kD b → a = b
  | .inl i, .inl j, h => by cases h; rfl
  | .inr i, .inr j, h => by cases h; rfl
  | .inl i, .inr j, h => by cases h
  | .inr i, .inl j, h => by cases h
/-- a dict as data -/
def dD (ks : List Key) (ds : List PyData) : PyData := .dict ((ks.map kD).zip ds)
/-- what it tells of a key -/
def lookK (ks : List Key) (ds : List PyData) (k : Key) : Option PyData := ((ks.zip ds).find? fun p => decide (p.1 = k)).map (·.2)
theorem dD_inj : ∀ {ks ks' : List Key} {ds ds' : List PyData}, ks.length = ds.length → ks'.length = ds'.length → (ks.map kD).zip ds = (ks'.map kD).zip ds' → ks = ks' ∧ ds = ds'
  | [], [], [], [], _, _, _ => ⟨rfl, rfl⟩
  | [], k :: ks, [], d :: ds, _, _, h => by cases h
  | k :: ks, [], d :: ds, [], _, _, h => by cases h
  | k :: ks, k' :: ks', d :: ds, d' :: ds', h1, h2, h => by
    rw [List.map_cons, List.map_cons, List.zip_cons_cons, List.zip_cons_cons] at h
    injection h with h3 h4
    injection h3 with h5 h6
    obtain ⟨e1, e2⟩ := dD_inj (by simpa using h1) (by simpa using h2) h4
    exact ⟨by rw [kD_inj h5, e1], by rw [h6, e2]⟩
theorem Dq.dD {K : PySem.W.Frag} {D : Hp} {v : V} {ks : List Key} {ds : List PyData} (hl : ks.length = ds.length) (h : Dq K D v (dD ks ds)) : ∃ (a : Addr) (xs : List V), v = .ref a ∧ Rd D a (.dK (ks.zip xs)) ∧ DqA K D xs ds := by
  obtain ⟨a, ks', xs, ds', e1, h1, h2, h3, h4⟩ := Dq.dictI h
  obtain ⟨e2, e3⟩ := dD_inj hl (by rw [h2, h3.len]) h4
  subst e2 e3
  exact ⟨a, xs, e1, h1, h3⟩
theorem valV_dq {K : PySem.W.Frag} {D : Hp} {k : Key} : ∀ {ks : List Key} {xs : List V} {ds : List PyData}, DqA K D xs ds → (valV (ks.zip xs) k = none ∧ lookK ks ds k = none) ∨ ∃ v d, valV (ks.zip xs) k = some v ∧ lookK ks ds k = some d ∧ Dq K D v d
  | [], _, _, _ => .inl ⟨rfl, rfl⟩
  | _ :: _, _, _, .nil => .inl ⟨rfl, rfl⟩
  | j :: ks, x :: xs, d :: ds, .cons h1 h2 => by
    by_cases e : j = k
    · refine .inr ⟨x, d, ?_, ?_, h1⟩
      · rw [List.zip_cons_cons, valV_pos (p := (j, x)) e]
      · unfold lookK
        rw [List.zip_cons_cons, List.find?_cons_of_pos (by simpa using e)]
        rfl
    · have e2 : lookK (j :: ks) (d :: ds) k = lookK ks ds k := by
        unfold lookK
        rw [List.zip_cons_cons, List.find?_cons_of_neg (by simpa using e)]
      rw [List.zip_cons_cons, valV_neg (p := (j, x)) e, e2]
      exact valV_dq h2

section
variable {K : PySem.W.Frag} {W : Fx} {EX : Hp → Prop} {ρ : List Sk} {td tk tx te : TE} {ks : List Key} {ds : List PyData} {k : Key} {d0 : PyData} {O : Out}
/-- a dict of one's own is told: it is data from now on -/
theorem st_retKd {i : Nat} (h : ρ[i]? = some (.kd ks ds)) (hl : ks.length = ds.length) (hr : O.rt (dD ks ds)) : StG K W EX (tRet (tVar i)) ρ O := fun D0 H0 D H σ Dn e _ _ _ kr kx => by
  obtain ⟨o, h1, l, xs, h2, h3, h4, h5, h6, h7⟩ := e.slot i _ h
  subst h2
  exact ⟨_, h1, kr _ _ _ _ (e.st.told h4 h3 h6) (.dic (Or.inl upd_same) (by rw [hl, h7.len]) (h7.up (same_new h3))) hr⟩
/-- d.get(k, x), d as data -/
theorem ev_getD (hl : ks.length = ds.length) (ha : EvD K W td ρ (dD ks ds)) (hk : EvD K W tk ρ (kD k)) (hd : EvD K W tx ρ d0) : EvD K W (tDGet2 td tk tx) ρ ((lookK ks ds k).getD d0) := fun D0 H0 D H σ e Q q =>
  ha D0 H0 D H σ e _ fun v D1 H1 d1 s1 q1 p1 => by
    subst p1
    obtain ⟨a, xs, e1, r1, r2⟩ := Dq.dD hl q1
    subst e1
    have o1 := s1.ok e.ok
    refine ⟨a, rfl, .inl ⟨_, same_rd o1.sub r1⟩, ?_⟩
    have e1 := e.step s1
    refine hk D0 H0 D1 H1 σ e1 _ fun y D2 H2 d2 s2 q2 p2 => ?_
    subst p2
    refine hd D0 H0 D2 H2 σ (e1.step s2) _ fun z D3 H3 d3 s3 q3 p3 => ?_
    subst p3
    have s23 := s2.trans e1.ok s3
    have o3 := s23.ok e1.ok
    have r3 : Rd H3 a (.dK (ks.zip xs)) := same_rd (s23.gro.trans o3.sub) r1
    have sA := s1.trans e.ok s23
    refine ⟨_, .inl ⟨_, k, r3, kD_dq q2, rfl⟩, ?_⟩
    rcases valV_dq (k := k) (ks := ks) r2 with ⟨g1, g2⟩ | ⟨u, d, g1, g2, g3⟩
    · rw [g1]
      exact q _ D3 H3 _ sA q3 (by rw [g2]; rfl)
    · rw [g1]
      exact q _ D3 H3 _ sA (g3.up s23.gro) (by rw [g2]; rfl)
/-- d.get(k, x), d a dict of one's own -/
theorem ev_getKd {i : Nat} (hρ : ρ[i]? = some (.kd ks ds)) (hk : EvD K W tk ρ (kD k)) (hd : EvD K W tx ρ d0) : EvD K W (tDGet2 (tVar i) tk tx) ρ ((lookK ks ds k).getD d0) := fun D0 H0 D H σ e Q q => by
  obtain ⟨o, h1, l, xs, h2, h3, h4, h5, h6, h7⟩ := e.slot i _ hρ
  subst h2
  refine ⟨_, h1, l, rfl, .inl ⟨_, .inl h6⟩, ?_⟩
  refine hk D0 H0 D H σ e _ fun y D2 H2 d2 s2 q2 p2 => ?_
  subst p2
  have e2 := e.step s2
  refine hd D0 H0 D2 H2 σ e2 _ fun z D3 H3 d3 s3 q3 p3 => ?_
  subst p3
  have s23 := s2.trans e.ok s3
  have r3 : H3 l = some (.dK (ks.zip xs)) := s23.off l _ h5 h6
  refine ⟨_, .inl ⟨_, k, .inl r3, kD_dq q2, rfl⟩, ?_⟩
  rcases valV_dq (k := k) (ks := ks) h7 with ⟨g1, g2⟩ | ⟨u, d, g1, g2, g3⟩
  · rw [g1]
    exact q _ D3 H3 _ s23 q3 (by rw [g2]; rfl)
  · rw [g1]
    exact q _ D3 H3 _ s23 (g3.up s23.gro) (by rw [g2]; rfl)
/-- sorted(d), all keys texts -/
def rSortDK : List V → Hp → VK → Prop := fun xs H Q => ∃ (a : Addr) (kvs : List (Key × V)) (ks : List Str), xs = [.ref a] ∧ Rd H a (.dK kvs) ∧ kvs.map (·.1) = ks.map Sum.inr ∧ ks.length < 64 ∧
    ∀ ys p, ys.Perm ks → sortedS ys = true → H p = none → Q (.ref p) (upd H p (.lst (ys.map V.str)))
theorem cr_sortDK {X : Cx} (hc : X.calm = true) : CallR X (.builtin "sorted") rSortDK := L2.call_sortedD hc
theorem evf_sortDK {zs : List Str} (ha : EvD K W te ρ (dD (zs.map Sum.inr) ds)) (hl : zs.length = ds.length) (hz : zs.length < 64) (nd : zs.Nodup) :
    EvF K W (tCB rSortDK (tCons te tNil)) ρ (fun es => ∃ ns : List Str, es = ns.map .str ∧ StrU ns ∧ ∀ k, k ∈ ns ↔ k ∈ zs) := fun D0 H0 D H σ e Q q =>
  ha D0 H0 D H σ e _ fun v D1 H1 d1 s1 q1 p1 => by
    subst p1
    obtain ⟨a, xs, e1, r1, r2⟩ := Dq.dD (by rw [List.length_map]; exact hl) q1
    subst e1
    have o1 := s1.ok e.ok
    refine ⟨a, _, zs, rfl, same_rd o1.sub r1, ?_, hz, fun ys p hp hs hn => ?_⟩
    · rw [List.map_fst_zip (by rw [List.length_map, r2.len]; omega)]
    exact q p _ D1 _ _ (s1.trans e.ok (.keptH o1 (same_new hn))) (fresh_of e.ok s1 hn) (o1.sub.free hn) upd_same (DqA.strs ys) ⟨ys, rfl, sorted_nd hs (hp.nodup_iff.mpr nd), fun k => hp.mem_iff⟩

/-! ### sorted lists of tuples of ints -/
def tupI (ns : List Int) : PyData := .tuple (ns.map .int)
def BdU (B : Int) (d : Nat) (nss : List (List Int)) : Prop := ∀ ns ∈ nss, ns.length = d ∧ TS.Bd B ns
theorem code_inj {B : Int} : ∀ {ns ms : List Int}, ns.length = ms.length → TS.Bd B ns → TS.Bd B ms → TS.code B ns = TS.code B ms → ns = ms
  | [], [], _, _, _, _ => rfl
  | n :: ns, m :: ms, hl, h1, h2, h => by
    have hl' : ns.length = ms.length := by simpa using hl
    rcases Int.lt_trichotomy n m with z | z | z
    · exact absurd h (Int.ne_of_lt (TS.code_lt hl' h1.tail h2.tail z))
    · subst z
      have : TS.code B ns = TS.code B ms := by
        show TS.code B ns = TS.code B ms
        have h' : n * B ^ ns.length + TS.code B ns = n * B ^ ms.length + TS.code B ms := h
        rw [hl'] at h'
        omega
      rw [code_inj hl' h1.tail h2.tail this]
    · exact absurd h.symm (Int.ne_of_lt (TS.code_lt hl'.symm h2.tail h1.tail z))
def srtU (B : Int) (nss : List (List Int)) : List (List Int) := nss.mergeSort fun a b => decide (TS.code B a ≤ TS.code B b)
theorem srtU_perm (B : Int) (nss : List (List Int)) : (srtU B nss).Perm nss := List.mergeSort_perm ..
theorem srtU_pw (B : Int) (nss : List (List Int)) : (srtU B nss).Pairwise fun a b => TS.code B a ≤ TS.code B b := by
  have := List.pairwise_mergeSort (le := fun (a b : List Int) => decide (TS.code B a ≤ TS.code B b)) (fun a b c h1 h2 => decide_eq_true (Int.le_trans (of_decide_eq_true h1) (of_decide_eq_true h2)))
    (fun a b => by
      rcases Int.le_total (TS.code B a) (TS.code B b) with z | z
      · simp [z]
      · simp [z]) nss
  exact this.imp fun h => of_decide_eq_true h
theorem srtU_eq {B : Int} {d : Nat} {nss mss : List (List Int)} (hb : BdU B d nss) (hp : mss.Perm nss) (hs : mss.Pairwise fun a b => TS.code B a ≤ TS.code B b) : mss = srtU B nss := by
  refine List.Perm.eq_of_pairwise (le := fun a b => TS.code B a ≤ TS.code B b) (fun a b ha hb' h1 h2 => ?_) hs (srtU_pw B nss) (hp.trans (srtU_perm B nss).symm)
  obtain ⟨l1, b1⟩ := hb a (hp.mem_iff.mp ha)
  obtain ⟨l2, b2⟩ := hb b ((srtU_perm B nss).mem_iff.mp hb')
  exact code_inj (by rw [l1, l2]) b1 b2 (Int.le_antisymm h1 h2)
theorem srtU_app {B : Int} {d : Nat} {nss mss : List (List Int)} (hb : BdU B d (nss ++ mss)) : srtU B (srtU B nss ++ mss) = srtU B (nss ++ mss) :=
  srtU_eq hb ((srtU_perm B _).trans ((srtU_perm B nss).append_right mss)) (srtU_pw B _)
theorem DqA.tupsI {D : Hp} : ∀ {xs : List V} {nss : List (List Int)}, DqA K D xs (nss.map tupI) → ∀ x ∈ xs, ∃ ns ∈ nss, TupI K D x ns
  | _, [], .nil, x, h => absurd h (by simp)
  | _, n :: nss, .cons h1 h2, x, h => by
    rcases List.mem_cons.mp h with e | e
    · subst e
      generalize ed : tupI n = d at h1
      cases h1 with
      | tup g1 g2 =>
        injection ed with ed
        subst ed
        have ex := g2.isInts
        subst ex
        exact ⟨n, List.mem_cons_self, _, rfl, g1⟩
      | _ => cases ed
    · obtain ⟨ns, m, t⟩ := h2.tupsI x e
      exact ⟨ns, List.mem_cons_of_mem _ m, t⟩
theorem perm_dq {D : Hp} : ∀ {ys xs : List V}, ys.Perm xs → ∀ {nss : List (List Int)}, DqA K D xs (nss.map tupI) → ∃ mss : List (List Int), mss.Perm nss ∧ DqA K D ys (mss.map tupI) := fun {ys xs} hp => by
  induction hp with
  | nil =>
    intro nss h
    exact ⟨nss, .refl _, h⟩
  | cons x p ih =>
    intro nss h
    cases nss with
    | nil => cases h
    | cons n nss =>
      cases h with
      | cons h1 h2 =>
        obtain ⟨mss, p1, q1⟩ := ih h2
        exact ⟨n :: mss, p1.cons n, .cons h1 q1⟩
  | swap x y l =>
    intro nss h
    match nss, h with
    | n :: m :: nss, .cons h1 (.cons h2 h3) => exact ⟨m :: n :: nss, .swap .., .cons h2 (.cons h1 h3)⟩
  | trans p1 p2 ih1 ih2 =>
    intro nss h
    obtain ⟨mss, q1, q2⟩ := ih2 h
    obtain ⟨ls, q3, q4⟩ := ih1 q2
    exact ⟨ls, q3.trans q1, q4⟩
theorem pw_codes {D : Hp} {B : Int} : ∀ {ys : List V} {mss : List (List Int)}, DqA K D ys (mss.map tupI) → ys.Pairwise (fun x y => ∀ n m, TupI K D x n → TupI K D y m → TS.code B n ≤ TS.code B m) → mss.Pairwise fun a b => TS.code B a ≤ TS.code B b := fun {ys mss} h hp => by
  rw [List.pairwise_iff_getElem] at hp ⊢
  intro i j hi hj hij
  have at' : ∀ {k : Nat} (hk : k < mss.length), ∃ hk' : k < ys.length, TupI K D ys[k] mss[k] := fun {k} hk => by
    have e : (mss.map tupI)[k]? = some (tupI mss[k]) := by rw [List.getElem?_map, List.getElem?_eq_getElem hk]; rfl
    obtain ⟨v, e2, q⟩ := h.at e
    have hk' := (List.getElem?_eq_some_iff.mp e2).1
    refine ⟨hk', ?_⟩
    have ev : ys[k] = v := (List.getElem?_eq_some_iff.mp e2).2
    rw [ev]
    obtain ⟨ns, m, t⟩ := DqA.tupsI (nss := [mss[k]]) (xs := [v]) (.cons q .nil) v (by simp)
    rw [List.mem_singleton.mp m] at t
    exact t
  obtain ⟨hi', t1⟩ := at' hi
  obtain ⟨hj', t2⟩ := at' hj
  exact hp i j hi' hj' hij _ _ t1 t2
theorem evf_sortU {B : Int} {n : Nat} {PN : List (List Int) → Prop} (hn : 1 ≤ n) (h : EvB K W te ρ (fun ds => ∃ nss : List (List Int), ds = nss.map tupI ∧ nss.length < 64 ∧ BdU B n nss ∧ PN nss)) :
    EvF K W (tCB (rSortU K n B) (tCons te tNil)) ρ (fun es => ∃ nss, PN nss ∧ es = (srtU B nss).map tupI) := fun D0 H0 D H σ e Q q =>
  h D0 H0 D H σ e _ fun l xs D1 H1 ds s1 hl q1 ⟨nss, e1, hz, hb, p⟩ => by
    subst e1
    have o1 := s1.ok e.ok
    have lx := q1.len
    rw [List.length_map] at lx
    refine ⟨l, xs, rfl, hl, by omega, fun x hx => ?_, fun ys p' hp hs hn' => ?_⟩
    · obtain ⟨ns, m, t⟩ := (q1.up o1.sub).tupsI x hx
      exact ⟨ns, t, hb ns m⟩
    · obtain ⟨mss, p1, p2⟩ := perm_dq hp q1
      have em := srtU_eq hb p1 (pw_codes (p2.up o1.sub) hs)
      subst em
      exact q p' _ D1 _ _ (s1.trans e.ok (.keptH o1 (same_new hn'))) (fresh_of e.ok s1 hn') (o1.sub.free hn') upd_same p2 ⟨nss, p, rfl⟩
end
end Dl

/-! ## lists put together, whatever lists they are; a list times an int -/
namespace Dl
open PySem PySem.Spec PyProof.Rows L2
section
variable {X : Cx}
def rCatL (K : PySem.W.Frag) : R2 := fun x y H Q => ∃ a b xs ys, x = .ref a ∧ y = .ref b ∧ SqL K H a xs ∧ SqL K H b ys ∧ xs.length + ys.length ≤ sizeLine ∧ ∀ p, H p = none → Q (.ref p) (upd H p (.lst (xs ++ ys)))
theorem op_catLL : OpR X (binaryOp .Add) (rCatL X.K) := by
  intro pins s σ H x y v u Q I rx ry h
  obtain ⟨a, b, xs, ys, rfl, rfl, ha, hb, hz, q⟩ := h
  cases rx
  cases ry
  obtain ⟨vs, r1, ⟨⟨c1, d1, t1, s1⟩, n1, ho1, hc1, _, hd1⟩, _⟩ := I.list ha
  obtain ⟨ws, r2, ⟨⟨c2, d2, t2, s2⟩, n2, ho2, hc2, _, hd2⟩, _⟩ := I.list hb
  simp only at hc1 hd1 hc2 hd2
  subst hc1 hd1 hc2 hd2
  have e1 := r1.length
  have e2 := r2.length
  have e : vs.toArray ++ ws.toArray = (vs ++ ws).toArray := by simp
  refine concat_meets ⟨_, ho1, rfl⟩ ⟨_, ho2, rfl⟩ noFill_list_add seq_list_add PySem.F.slot_list_add PySem.F.entry_list_add (PySem.F.args_list_add_2 _ _) (list_addW a b vs.toArray ws.toArray n1 n2 d1 d2 s1 s2 (by rw [List.size_toArray, List.size_toArray]; omega)) ⟨ho1, ho2, ?_⟩
  rw [e]
  exact ⟨.ref _, _, I.lnew (t' := s.toks) (r1.append r2) (by rw [List.length_append]; omega), rfl, q _ I.fresh⟩
end
section
variable {K : PySem.W.Frag} {W : Fx} {ρ : List Sk} {ta tb : TE} {PA PB : List PyData → Prop}
theorem evf_catLL (ha : EvN K W ta ρ (fun d => ∃ ds, PA ds ∧ d = .list ds)) (hb : EvB K W tb ρ PB) (hl : ∀ a b, PA a → PB b → a.length + b.length ≤ sizeLine) : EvF K W (tOp (rCatL K) ta tb) ρ (fun ds => ∃ a b, PA a ∧ PB b ∧ ds = a ++ b) := fun D0 H0 D H σ e Q q =>
  ha D0 H0 D H σ e _ fun v D1 H1 d s1 q1 ⟨ds, p1, e1⟩ => hb D0 H0 D1 H1 σ (e.step s1) _ fun m ys D2 H2 es s2 w2 q2 p2 => by
    subst e1
    cases q1 with
    | lst h1 h2 =>
      have o1 := s1.ok e.ok
      have o2 := s2.ok o1
      have s12 := s1.trans e.ok s2
      refine ⟨_, m, _, ys, rfl, rfl, same_l (s2.gro.trans o2.sub) h1, w2, by rw [h2.len, q2.len]; exact hl _ _ p1 p2, fun p hp => ?_⟩
      exact q p _ D2 _ _ (s12.trans e.ok (.keptH o2 (same_new hp))) (fresh_of e.ok s12 hp) (o2.sub.free hp) upd_same ((h2.up s2.gro).app q2) ⟨ds, es, p1, p2, rfl⟩
theorem evf_rep {k : Nat} (ha : EvF K W ta ρ PA) (hb : EvD K W tb ρ (.int (k : Int))) (hl : ∀ a, PA a → a.length * k ≤ sizeLine) (hk : k < 1000000) : EvF K W (tOp rRep ta tb) ρ (fun ds => ∃ a, PA a ∧ ds = (List.replicate k a).flatten) := fun D0 H0 D H σ e Q q =>
  ha D0 H0 D H σ e _ fun l xs D1 H1 ds s1 n1 d1 l1 q1 p1 => hb D0 H0 D1 H1 σ (e.step s1) _ fun y D2 H2 d2 s2 q2 p2 => by
    subst p2
    cases q2
    have o1 := s1.ok e.ok
    have o2 := s2.ok o1
    have s12 := s1.trans e.ok s2
    have hw : ¬ W.adr l := fun hw => W.has H l e.ok.inv hw n1
    have l2 : H2 l = some (.lst xs) := s2.off l _ hw l1
    refine ⟨l, (k : Int), xs, rfl, rfl, l2, by omega, by omega, by rw [q1.len]; exact hl _ p1, fun p hp => ?_⟩
    have dq : ∀ n : Nat, DqA K D2 (List.replicate n xs).flatten (List.replicate n ds).flatten := fun n => by
      induction n with
      | zero => exact .nil
      | succ n ih =>
        rw [List.replicate_succ, List.replicate_succ, List.flatten_cons, List.flatten_cons]
        exact (q1.up s2.gro).app ih
    exact q p _ D2 _ _ (s12.trans e.ok (.keptH o2 (same_new hp))) (fresh_of e.ok s12 hp) (o2.sub.free hp) upd_same (dq k) ⟨ds, p1, rfl⟩
end
end Dl

/-! ## sorted lists of tuples of ints and texts, any number of them -/
namespace Dl
open PySem PySem.Spec PyProof.Rows L2

def itK : Key → Int ⊕ List Nat
  | .inl i => .inl i
  | .inr z => .inr z.cps.toList
def itKs (ks : List Key) : List (Int ⊕ List Nat) := ks.map itK
def isTx : Key → Bool
  | .inl _ => false
  | .inr _ => true
def shOk (shape : Nat → Bool) : Nat → List Key → Prop
  | _, [] => True
  | i, k :: ks => shape i = isTx k ∧ shOk shape (i + 1) ks
theorem itK_inj : ∀ {a b : Key}, itK a = itK b → a = b
  | .inl i, .inl j, h => by cases h; rfl
  | .inr i, .inr j, h => by rw [str_inj (Sum.inr.inj h)]
  | .inl i, .inr j, h => by cases h
  | .inr i, .inl j, h => by cases h
theorem itKs_inj : ∀ {a b : List Key}, itKs a = itKs b → a = b
  | [], [], _ => rfl
  | [], _ :: _, h => by cases h
  | _ :: _, [], h => by cases h
  | x :: a, y :: b, h => by
    unfold itKs at h
    rw [List.map_cons, List.map_cons] at h
    injection h with h1 h2
    rw [itK_inj h1, itKs_inj h2]
theorem tupItems_of {shape : Nat → Bool} : ∀ {ks : List Key} {us : List Value} {i : Nat}, shOk shape i ks → Vals (ks.map kV) us → tupItems shape i us = some (itKs ks)
  | [], _, _, _, h => by
    cases h
    rfl
  | .inl n :: ks, _, i, hs, h => by
    cases h with
    | cons h1 h2 =>
      obtain ⟨t, rfl⟩ := h1
      have e : shape i = false := hs.1
      show (if shape i = true then none else (tupItems shape (i + 1) _).map (Sum.inl n :: ·)) = _
      rw [e, if_neg Bool.false_ne_true, tupItems_of hs.2 h2]
      rfl
  | .inr z :: ks, _, i, hs, h => by
    cases h with
    | cons h1 h2 =>
      obtain ⟨t, rfl⟩ := h1
      have e : shape i = true := hs.1
      show (if shape i = true then (tupItems shape (i + 1) _).map (Sum.inr z.cps.toList :: ·) else none) = _
      rw [e, if_pos rfl, tupItems_of hs.2 h2]
      rfl
def TupM (K : PySem.W.Frag) (H : Hp) (x : V) (ks : List Key) : Prop := ∃ t, x = .ref t ∧ SqT K H t (ks.map kV)
section
variable {X : Cx} {pins : List (Addr × Obj)} {σ : L2.St} {H : Hp} {s : Shared}
theorem tupM_raw (I : Inv X pins σ H s) {t : Addr} {ks : List Key} (h : SqT X.K H t (ks.map kV)) : ∃ (o : Obj) (its : Array Value) (n : Nat), s.heap.get? t = some o ∧ o.cls = .type "tuple" ∧ o.data = .seq its n ∧ Vals (ks.map kV) its.toList := by
  obtain ⟨its, rv, ⟨o, ho, hc, n, hd⟩, _⟩ := I.tuple h
  exact ⟨o, its.toArray, n, ho, hc, hd, by simpa using rv⟩
theorem tupM_key (I : Inv X pins σ H s) {shape : Nat → Bool} {t : Addr} {ks : List Key} (h : SqT X.K H t (ks.map kV)) (hs : shOk shape 0 ks) : G.tupKeyC s.heap shape (.ref t) = some (itKs ks) := by
  obtain ⟨o, its, n, ho, hc, hd, rv⟩ := tupM_raw I h
  have e1 : G.isTupObj s.heap (.ref t) = true := by simp [G.isTupObj, ho, hc]
  unfold G.tupKeyC
  rw [if_pos e1]
  simp only [tupKey, ho, hd]
  exact tupItems_of hs rv
theorem tupM_of (I : Inv X pins σ H s) {shape : Nat → Bool} {t : Addr} {ks : List Key} (h : SqT X.K H t (ks.map kV)) (hs : shOk shape 0 ks) (hne : ks ≠ []) : ∃ f, TupOf s.heap shape (.ref t) f := by
  obtain ⟨o, its, n, ho, hc, hd, rv⟩ := tupM_raw I h
  cases ks with
  | nil => exact absurd rfl hne
  | cons k ks =>
    rw [List.map_cons] at rv
    generalize hl : its.toList = l at rv
    cases rv with
    | @cons _ f _ fs h1 h2 =>
      have e0 : its[0]? = some f := by rw [← Array.getElem?_toList, hl]; rfl
      have e2 : shape 0 = isTx k := hs.1
      refine ⟨f, t, o, its, n, rfl, ho, hc, hd, e0, fun e => ?_, fun e => ?_⟩
      · cases k with
        | inl i =>
          obtain ⟨tk, e3⟩ := h1
          exact ⟨i, tk, e3⟩
        | inr z =>
          rw [e] at e2
          cases e2
      · cases k with
        | inr i =>
          obtain ⟨tk, e3⟩ := h1
          exact ⟨i, tk, e3⟩
        | inl z =>
          rw [e] at e2
          cases e2
theorem tupsM_of {h : Heap} {shape : Nat → Bool} : ∀ {vs : List Value}, (∀ v ∈ vs, ∃ f, TupOf h shape v f) → ∃ fs, TupsOf h shape vs fs
  | [], _ => ⟨[], .nil⟩
  | v :: vs, hv => by
    obtain ⟨f, hf⟩ := hv v List.mem_cons_self
    obtain ⟨fs, hfs⟩ := tupsM_of fun u hu => hv u (List.mem_cons_of_mem _ hu)
    exact ⟨f :: fs, .cons hf hfs⟩
/-- sorted(xs), xs tuples of ints and texts -/
def rSortM (K : PySem.W.Frag) (shape : Nat → Bool) : List V → Hp → VK → Prop := fun vs H Q => ∃ (a : Addr) (xs : List V), vs = [V.ref a] ∧ SqL K H a xs ∧ (∀ x ∈ xs, ∃ ks, TupM K H x ks ∧ ks ≠ [] ∧ shOk shape 0 ks) ∧
  ∀ (ys : List V) (p : Addr), ys.Perm xs → ys.Pairwise (fun x y => ∀ n m, TupM K H x n → shOk shape 0 n → TupM K H y m → shOk shape 0 m → lexLt itemOrd (itKs m) (itKs n) = false) → H p = none → Q (.ref p) (upd H p (.lst ys))
end
section
variable {X : Cx}
theorem cr_sortM {shape : Nat → Bool} : CallR X (.builtin "sorted") (rSortM X.K shape) := by
  intro pins s σ H vs us Q I r h
  obtain ⟨a, xs, rfl, hs, hx, q⟩ := h
  obtain ⟨its, rv, hl, hz⟩ := I.list hs
  rw [Vals.ref1 r]
  obtain ⟨e1, e2⟩ := bkV_refs rv fun x m => by
    obtain ⟨ns, ⟨t, e, _⟩, _⟩ := hx x m
    exact ⟨t, e⟩
  have has : ∀ v ∈ its, ∃ t ks, v = .ref t ∧ SqT X.K H t (ks.map kV) ∧ ks ≠ [] ∧ shOk shape 0 ks := fun v hv => by
    obtain ⟨t, rfl⟩ := e2 v hv
    have hm : V.ref t ∈ xs := by
      rw [e1]
      exact List.mem_map.mpr ⟨_, hv, rfl⟩
    obtain ⟨ks, ⟨t', e, ht⟩, hn, hb⟩ := hx _ hm
    cases e
    exact ⟨t, ks, rfl, ht, hn, hb⟩
  obtain ⟨fs, ht⟩ := tupsM_of (h := s.heap) (shape := shape) (vs := its) fun v hv => by
    obtain ⟨t, ks, rfl, h1, h2, h3⟩ := has v hv
    exact tupM_of I h1 h3 h2
  refine G.sorted_tups hl.isList ht (fun v hv => ?_) (by rw [← rv.length]; exact hz) fun st' hp hsort _ => ?_
  · obtain ⟨t, ks, rfl, h1, h2, h3⟩ := has v hv
    exact ⟨_, tupM_key I h1 h3⟩
  · have hpl : (arrOf st').toList.Perm (its.zip its) := by rw [← pairsOf_toList]; exact Array.perm_iff_toList_perm.mp hp
    have same : ∀ p ∈ (arrOf st').toList, p.1 = p.2 ∧ p.1 ∈ its := fun p hp' => mem_zip_self (hpl.mem_iff.mp hp')
    have hout : ((arrOf st').map (·.2)).toList = (arrOf st').toList.map (·.2) := Array.toList_map
    have pout : ((arrOf st').map (·.2)).toList.Perm its := by
      rw [hout]
      have z := hpl.map Prod.snd
      rw [List.map_snd_zip (Nat.le_refl _)] at z
      exact z
    obtain ⟨ep, he'⟩ := PyProof.Rows.sortedAll_at s.heap its ((arrOf st').map (·.2))
    have h3 : ∀ u ∈ ((arrOf st').map (·.2)).toList, ∃ a, u = Value.ref a := fun u hu => e2 u (pout.mem_iff.mp hu)
    have hpp : (((arrOf st').map (·.2)).toList.map bkV).Perm xs := by
      rw [e1]
      exact pout.map bkV
    have hlen : (((arrOf st').map (·.2)).toList.map bkV).length ≤ sizeLine := by
      rw [hpp.length_eq]
      exact hz
    refine ⟨.ref _, upd H (s.heap.objs.size + 1) (.lst (((arrOf st').map (·.2)).toList.map bkV)), I.laid (t' := s.toks) (fun _ _ => PyProof.Rows.sortedAll_old) (Nat.le_succ _) ⟨hlen, ((arrOf st').map (·.2)).toList, ep, bkV_vals h3, by rw [Array.toArray_toList]; exact he'⟩, rfl, q _ _ hpp ?_ (I.hok.fresh (Nat.le_succ _))⟩
    rw [List.pairwise_map, hout, List.pairwise_map, List.pairwise_iff_getElem]
    intro i j hi hj hij n m hn sn hm sm
    have hi' : i < (arrOf st').size := by simpa using hi
    have hj' : j < (arrOf st').size := by simpa using hj
    have k1 := hsort i j (Nat.le_of_lt hij) (by rw [← hp.size_eq]; exact hj')
    obtain ⟨t, et, ht1⟩ := hn
    obtain ⟨t', et', ht2⟩ := hm
    have eu := bkV_ref et
    have ev := bkV_ref et'
    have g1 := (same _ (List.getElem_mem hi)).1
    have g2 := (same _ (List.getElem_mem hj)).1
    have kk : ∀ (k : Nat) (hk : k < (arrOf st').size) (t : Addr) (ks : List Key), (arrOf st')[k].1 = .ref t → SqT X.K H t (ks.map kV) → shOk shape 0 ks → KK (G.tupKindC s.heap shape) (arrOf st') k = itKs ks := fun k hk t ks e hT sk => by
      unfold KK
      rw [getElem?_pos (arrOf st') k hk]
      show (G.tupKeyC s.heap shape (arrOf st')[k].1).getD _ = _
      rw [e, tupM_key I hT sk]
      rfl
    rw [kk i hi' t n (by rw [Array.getElem_toList] at g1 eu; rw [g1]; exact eu) ht1 sn, kk j hj' t' m (by rw [Array.getElem_toList] at g2 ev; rw [g2]; exact ev) ht2 sm] at k1
    exact k1
end
end Dl

/-! ## sorted lists of tuples of ints and texts, in the logic -/
namespace Dl
open PySem PySem.Spec PyProof.Rows L2

theorem kD_kV {K : PySem.W.Frag} {D : Hp} : ∀ (k : Key), Dq K D (kV k) (kD k)
  | .inl i => .int i
  | .inr z => .str z
theorem DqA.keysV {K : PySem.W.Frag} {D : Hp} : ∀ {xs : List V} (ks : List Key), DqA K D xs (ks.map kD) → xs = ks.map kV
  | _, [], h => by
    cases h
    rfl
  | _, k :: ks, h => by
    rw [List.map_cons] at h
    cases h with
    | cons h1 h2 => rw [kD_dq h1, DqA.keysV ks h2, List.map_cons]
def tupM (ks : List Key) : PyData := .tuple (ks.map kD)
def leM (a b : List Key) : Bool := !lexLt itemOrd (itKs b) (itKs a)
theorem leM_iff {a b : List Key} : leM a b = true ↔ lexLt itemOrd (itKs b) (itKs a) = false := by
  unfold leM
  rw [Bool.not_eq_true']
theorem leM_trans (a b c : List Key) (h1 : leM a b = true) (h2 : leM b c = true) : leM a c = true := by
  rw [leM_iff] at h1 h2 ⊢
  cases h : lexLt itemOrd (itKs c) (itKs a) with
  | false => rfl
  | true =>
    rcases lex_negTrans (O := itemOrd) (itKs c) (itKs b) (itKs a) h with z | z
    · rw [h2] at z
      cases z
    · rw [h1] at z
      cases z
theorem leM_total (a b : List Key) : (leM a b || leM b a) = true := by
  rw [Bool.or_eq_true, leM_iff, leM_iff]
  cases h : lexLt itemOrd (itKs b) (itKs a) with
  | false => exact .inl rfl
  | true =>
    refine .inr ?_
    cases h2 : lexLt itemOrd (itKs a) (itKs b) with
    | false => rfl
    | true =>
      have := lex_trans (O := itemOrd) _ _ _ h h2
      rw [lex_irrefl (O := itemOrd)] at this
      cases this
theorem leM_anti {a b : List Key} (h1 : leM a b = true) (h2 : leM b a = true) : a = b := by
  rw [leM_iff] at h1 h2
  exact itKs_inj (lex_total (O := itemOrd) _ _ h2 h1)
def srtM (kss : List (List Key)) : List (List Key) := kss.mergeSort leM
theorem srtM_perm (kss : List (List Key)) : (srtM kss).Perm kss := List.mergeSort_perm ..
theorem srtM_pw (kss : List (List Key)) : (srtM kss).Pairwise fun a b => leM a b = true := List.pairwise_mergeSort leM_trans leM_total kss
theorem srtM_eq {kss mss : List (List Key)} (hp : mss.Perm kss) (hs : mss.Pairwise fun a b => leM a b = true) : mss = srtM kss :=
  List.Perm.eq_of_pairwise (le := fun a b => leM a b = true) (fun _ _ _ _ h1 h2 => leM_anti h1 h2) hs (srtM_pw kss) (hp.trans (srtM_perm kss).symm)
theorem srtM_of_perm {a b : List (List Key)} (h : a.Perm b) : srtM a = srtM b := srtM_eq ((srtM_perm a).trans h) (srtM_pw a)
theorem srtM_app (a b : List (List Key)) : srtM (srtM a ++ b) = srtM (a ++ b) := srtM_of_perm ((srtM_perm a).append_right b)
theorem srtM_nil : srtM [] = [] := by
  unfold srtM
  simp
section
variable {K : PySem.W.Frag} {W : Fx} {ρ : List Sk} {te : TE}
theorem DqA.tupsM {D : Hp} : ∀ {xs : List V} {nss : List (List Key)}, DqA K D xs (nss.map tupM) → ∀ x ∈ xs, ∃ ns ∈ nss, TupM K D x ns
  | _, [], .nil, x, h => absurd h (by simp)
  | _, n :: nss, .cons h1 h2, x, h => by
    rcases List.mem_cons.mp h with e | e
    · subst e
      generalize ed : tupM n = d at h1
      cases h1 with
      | tup g1 g2 =>
        injection ed with ed
        subst ed
        have ex := g2.keysV
        subst ex
        exact ⟨n, List.mem_cons_self, _, rfl, g1⟩
      | _ => cases ed
    · obtain ⟨ns, m, t⟩ := h2.tupsM x e
      exact ⟨ns, List.mem_cons_of_mem _ m, t⟩
theorem perm_dqA {α : Type} {g : α → PyData} {D : Hp} : ∀ {ys xs : List V}, ys.Perm xs → ∀ {nss : List α}, DqA K D xs (nss.map g) → ∃ mss : List α, mss.Perm nss ∧ DqA K D ys (mss.map g) := fun {ys xs} hp => by
  induction hp with
  | nil =>
    intro nss h
    exact ⟨nss, .refl _, h⟩
  | cons x p ih =>
    intro nss h
    cases nss with
    | nil => cases h
    | cons n nss =>
      cases h with
      | cons h1 h2 =>
        obtain ⟨mss, p1, q1⟩ := ih h2
        exact ⟨n :: mss, p1.cons n, .cons h1 q1⟩
  | swap x y l =>
    intro nss h
    match nss, h with
    | n :: m :: nss, .cons h1 (.cons h2 h3) => exact ⟨m :: n :: nss, .swap .., .cons h2 (.cons h1 h3)⟩
  | trans p1 p2 ih1 ih2 =>
    intro nss h
    obtain ⟨mss, q1, q2⟩ := ih2 h
    obtain ⟨ls, q3, q4⟩ := ih1 q2
    exact ⟨ls, q3.trans q1, q4⟩
theorem pw_leM {shape : Nat → Bool} {D : Hp} : ∀ {ys : List V} {mss : List (List Key)}, DqA K D ys (mss.map tupM) → (∀ ms ∈ mss, shOk shape 0 ms) →
    ys.Pairwise (fun x y => ∀ n m, TupM K D x n → shOk shape 0 n → TupM K D y m → shOk shape 0 m → lexLt itemOrd (itKs m) (itKs n) = false) → mss.Pairwise fun a b => leM a b = true := fun {ys mss} h hb hp => by
  rw [List.pairwise_iff_getElem] at hp ⊢
  intro i j hi hj hij
  have at' : ∀ {k : Nat} (hk : k < mss.length), ∃ hk' : k < ys.length, TupM K D ys[k] mss[k] := fun {k} hk => by
    have e : (mss.map tupM)[k]? = some (tupM mss[k]) := by rw [List.getElem?_map, List.getElem?_eq_getElem hk]; rfl
    obtain ⟨v, e2, q⟩ := h.at e
    have hk' := (List.getElem?_eq_some_iff.mp e2).1
    refine ⟨hk', ?_⟩
    have ev : ys[k] = v := (List.getElem?_eq_some_iff.mp e2).2
    rw [ev]
    obtain ⟨ns, m, t⟩ := DqA.tupsM (nss := [mss[k]]) (xs := [v]) (.cons q .nil) v (by simp)
    rw [List.mem_singleton.mp m] at t
    exact t
  obtain ⟨hi', t1⟩ := at' hi
  obtain ⟨hj', t2⟩ := at' hj
  exact leM_iff.mpr (hp i j hi' hj' hij _ _ t1 (hb _ (List.getElem_mem hi)) t2 (hb _ (List.getElem_mem hj)))
theorem evf_sortM {shape : Nat → Bool} {PN : List (List Key) → Prop} (h : EvB K W te ρ (fun ds => ∃ nss : List (List Key), ds = nss.map tupM ∧ (∀ ns ∈ nss, ns ≠ [] ∧ shOk shape 0 ns) ∧ PN nss)) :
    EvF K W (tCB (rSortM K shape) (tCons te tNil)) ρ (fun es => ∃ nss, PN nss ∧ es = (srtM nss).map tupM) := fun D0 H0 D H σ e Q q =>
  h D0 H0 D H σ e _ fun l xs D1 H1 ds s1 hl q1 ⟨nss, e1, hb, p⟩ => by
    subst e1
    have o1 := s1.ok e.ok
    refine ⟨l, xs, rfl, hl, fun x hx => ?_, fun ys p' hp hs hn' => ?_⟩
    · obtain ⟨ns, m, t⟩ := (q1.up o1.sub).tupsM x hx
      exact ⟨ns, t, hb ns m⟩
    · obtain ⟨mss, p1, p2⟩ := perm_dqA hp q1
      have em := srtM_eq p1 (pw_leM (p2.up o1.sub) (fun ms hm => (hb ms (p1.mem_iff.mp hm)).2) hs)
      subst em
      exact q p' _ D1 _ _ (s1.trans e.ok (.keptH o1 (same_new hn'))) (fresh_of e.ok s1 hn') (o1.sub.free hn') upd_same p2 ⟨nss, p, rfl⟩
theorem ei_tupN {P : List PyData → Prop} (h : EvN K W te ρ (fun d => ∃ ds, P ds ∧ d = .tuple ds)) : EvI K W (iTup K te) ρ P := fun D0 H0 D H σ e R k =>
  h D0 H0 D H σ e _ fun v D' H' d s q ⟨ds, p, e1⟩ => by
    subst e1
    cases q with
    | tup h1 h2 => exact ⟨_, rfl, ⟨_, same_t s.sub h1⟩, k _ D' H' _ s (.tup h1 h2) p⟩
theorem evf_catLB {ta tb : TE} {PA PB : List PyData → Prop} (ha : EvL K W ta ρ PA) (hb : EvB K W tb ρ PB) (hl : ∀ a b, PA a → PB b → a.length + b.length ≤ sizeLine) : EvF K W (tOp (rCatL K) ta tb) ρ (fun ds => ∃ a b, PA a ∧ PB b ∧ ds = a ++ b) := fun D0 H0 D H σ e Q q =>
  ha D0 H0 D H σ e _ fun l xs D1 H1 ds s1 w1 c1 q1 p1 => hb D0 H0 D1 H1 σ (e.step s1) _ fun m ys D2 H2 es s2 w2 q2 p2 => by
    have o1 := s1.ok e.ok
    have o2 := s2.ok o1
    have s12 := s1.trans e.ok s2
    refine ⟨l, m, xs, ys, rfl, rfl, Or.inl (Or.inl (s2.off l _ w1 c1)), w2, by rw [q1.len, q2.len]; exact hl _ _ p1 p2, fun p hp => ?_⟩
    exact q p _ D2 _ _ (s12.trans e.ok (.keptH o2 (same_new hp))) (fresh_of e.ok s12 hp) (o2.sub.free hp) upd_same ((q1.up s2.gro).app q2) ⟨ds, es, p1, p2, rfl⟩
end
section
variable {P : Program} {w : World} {K : PySem.W.Frag} {mg : Str → Option Value} {base : Heap} {x qual : Str} {st : Stmt} {f : Addr} {fd : FuncData} {N ps : List Str} {k : Nat} {Pre : List PyData → Prop} {Post : List PyData → PyData → Prop}
/-- a def whose repr is known where no guard stands -/
theorem ok_NG (F : Fun K x qual st f fd) (S : FnScope N ps (defScope st)) (hb : ∀ (cdv : Value) (A : Around) (outer : List PySem.Env) (s : Shared) (H : Hp) (E : XK), A.guards = some [] →
      Room k (A.deeper (envOfC qual (defScope st) s.heap.objs.size f cdv)) → ∀ ds, ds.length = ps.length → Pre ds →
      ∃ t, PSs (cxOf CX0 P w K mg base N qual (defScope st) f cdv A outer s H E).nox (defBody st) t ∧ StG K Fx.non (fun _ => False) t (ins N ds) { nx := fun _ => Post ds .none, rt := Post ds }) :
    FnG P w K mg base CX0 (k + 1) f fd ps (spN K ps.length Pre Post) := by
  refine fun_okG0 F S (fun vs H Q E h => ?_) (fun cdv A outer s H vs Q E hg hr h => ?_)
  · obtain ⟨D, ds, _, q, hl, _⟩ := h
    rw [q.len]
    exact hl
  · obtain ⟨D, ds, o, q, hl, p, k⟩ := h
    obtain ⟨t, ht, hgo⟩ := hb cdv A outer s H E hg hr ds hl p
    refine ⟨t, ht, hgo.run (env_start o q ?_) k fun _ _ _ z => z⟩
    have hp : ps.length ≤ N.length := by
      have := congrArg List.length S.pre
      rw [List.length_take] at this
      omega
    omega
end
end Dl

namespace K07
open PySem PySem.Spec PyProof.Rows L2 Dl
def topS (i : Nat) : Stmt := (PySem.Challenge.pw_risingsheets_k07_whole_calls_of_all_stat.main.body[i]?).getD (.Pass default)
abbrev s_is_integer : Stmt := topS 4
abbrev N_is_integer : List Str := ["value"]
theorem sc_is_integer : FnScope N_is_integer ["value"] (defScope s_is_integer) := ⟨rfl, rfl, rfl, by decide +kernel, rfl, by decide +kernel, by decide +kernel⟩
abbrev s_is_within : Stmt := topS 5
abbrev N_is_within : List Str := ["value", "low", "high"]
theorem sc_is_within : FnScope N_is_within ["value", "low", "high"] (defScope s_is_within) := ⟨rfl, rfl, rfl, by decide +kernel, rfl, by decide +kernel, by decide +kernel⟩
abbrev s_is_tuple_of : Stmt := topS 6
abbrev N_is_tuple_of : List Str := ["value", "many"]
theorem sc_is_tuple_of : FnScope N_is_tuple_of ["value", "many"] (defScope s_is_tuple_of) := ⟨rfl, rfl, rfl, by decide +kernel, rfl, by decide +kernel, by decide +kernel⟩
abbrev s_ascends : Stmt := topS 7
abbrev N_ascends : List Str := ["items", "low", "high"]
theorem sc_ascends : FnScope N_ascends ["items"] (defScope s_ascends) := ⟨rfl, rfl, rfl, by decide +kernel, rfl, by decide +kernel, by decide +kernel⟩
abbrev s_is_name : Stmt := topS 17
abbrev N_is_name : List Str := ["value", "sign"]
theorem sc_is_name : FnScope N_is_name ["value"] (defScope s_is_name) := ⟨rfl, rfl, rfl, by decide +kernel, rfl, by decide +kernel, by decide +kernel⟩
abbrev s_is_call : Stmt := topS 18
abbrev N_is_call : List Str := ["value"]
theorem sc_is_call : FnScope N_is_call ["value"] (defScope s_is_call) := ⟨rfl, rfl, rfl, by decide +kernel, rfl, by decide +kernel, by decide +kernel⟩
abbrev s_are_days : Stmt := topS 19
abbrev N_are_days : List Str := ["value", "length", "day"]
theorem sc_are_days : FnScope N_are_days ["value", "length"] (defScope s_are_days) := ⟨rfl, rfl, rfl, by decide +kernel, rfl, by decide +kernel, by decide +kernel⟩
abbrev s_is_calendar : Stmt := topS 20
abbrev N_is_calendar : List Str := ["value", "first", "length", "holidays"]
theorem sc_is_calendar : FnScope N_is_calendar ["value"] (defScope s_is_calendar) := ⟨rfl, rfl, rfl, by decide +kernel, rfl, by decide +kernel, by decide +kernel⟩
abbrev s_calls_error : Stmt := topS 21
abbrev N_calls_error : List Str := ["calls", "place", "further", "call"]
theorem sc_calls_error : FnScope N_calls_error ["calls", "place"] (defScope s_calls_error) := ⟨rfl, rfl, rfl, by decide +kernel, rfl, by decide +kernel, by decide +kernel⟩
abbrev s_train_error : Stmt := topS 22
abbrev N_train_error : List Str := ["trains", "place", "length", "train", "least", "number", "days", "calls"]
theorem sc_train_error : FnScope N_train_error ["trains", "place", "length"] (defScope s_train_error) := ⟨rfl, rfl, rfl, by decide +kernel, rfl, by decide +kernel, by decide +kernel⟩
abbrev s_count_error : Stmt := topS 23
abbrev N_count_error : List Str := ["trains", "names", "train", "call"]
theorem sc_count_error : FnScope N_count_error ["trains"] (defScope s_count_error) := ⟨rfl, rfl, rfl, by decide +kernel, rfl, by decide +kernel, by decide +kernel⟩
abbrev s_plan_error : Stmt := topS 24
abbrev N_plan_error : List Str := ["value", "place", "calendar", "trains", "error"]
theorem sc_plan_error : FnScope N_plan_error ["value"] (defScope s_plan_error) := ⟨rfl, rfl, rfl, by decide +kernel, rfl, by decide +kernel, by decide +kernel⟩
abbrev s_stations_of : Stmt := topS 25
abbrev N_stations_of : List Str := ["plan", "train", "call"]
theorem sc_stations_of : FnScope N_stations_of ["plan"] (defScope s_stations_of) := ⟨rfl, rfl, rfl, by decide +kernel, rfl, by decide +kernel, by decide +kernel⟩
abbrev s_calls_at : Stmt := topS 26
abbrev N_calls_at : List Str := ["plan", "name", "found", "number", "_", "calls", "place", "station", "minute"]
theorem sc_calls_at : FnScope N_calls_at ["plan", "name"] (defScope s_calls_at) := ⟨rfl, rfl, rfl, by decide +kernel, rfl, by decide +kernel, by decide +kernel⟩
abbrev s_train_of : Stmt := topS 27
abbrev N_train_of : List Str := ["plan", "number", "train"]
theorem sc_train_of : FnScope N_train_of ["plan", "number"] (defScope s_train_of) := ⟨rfl, rfl, rfl, by decide +kernel, rfl, by decide +kernel, by decide +kernel⟩
abbrev s_minute_of : Stmt := topS 28
abbrev N_minute_of : List Str := ["plan", "mark", "number", "place"]
theorem sc_minute_of : FnScope N_minute_of ["plan", "mark"] (defScope s_minute_of) := ⟨rfl, rfl, rfl, by decide +kernel, rfl, by decide +kernel, by decide +kernel⟩
abbrev s__law_well : Stmt := topS 30
abbrev N__law_well : List Str := ["script", "cell", "cells", "stirred"]
theorem sc__law_well : FnScope N__law_well ["script"] (defScope s__law_well) := ⟨rfl, rfl, rfl, by decide +kernel, rfl, by decide +kernel, by decide +kernel⟩
abbrev s__law_draw : Stmt := topS 31
abbrev N__law_draw : List Str := ["well", "many", "found", "cell"]
theorem sc__law_draw : FnScope N__law_draw ["well", "many"] (defScope s__law_draw) := ⟨rfl, rfl, rfl, by decide +kernel, rfl, by decide +kernel, by decide +kernel⟩
abbrev s__law_pick : Stmt := topS 32
abbrev N__law_pick : List Str := ["well", "items"]
theorem sc__law_pick : FnScope N__law_pick ["well", "items"] (defScope s__law_pick) := ⟨rfl, rfl, rfl, by decide +kernel, rfl, by decide +kernel, by decide +kernel⟩
abbrev s__law_calendar : Stmt := topS 33
abbrev N__law_calendar : List Str := ["well", "most", "holidays", "first", "length", "often", "day"]
theorem sc__law_calendar : FnScope N__law_calendar ["well", "most"] (defScope s__law_calendar) := ⟨rfl, rfl, rfl, by decide +kernel, rfl, by decide +kernel, by decide +kernel⟩
abbrev s__law_some : Stmt := topS 34
abbrev N__law_some : List Str := ["well", "length", "way", "first", "day"]
theorem sc__law_some : FnScope N__law_some ["well", "length"] (defScope s__law_some) := ⟨rfl, rfl, rfl, by decide +kernel, rfl, by decide +kernel, by decide +kernel⟩
abbrev s__law_calls : Stmt := topS 35
abbrev N__law_calls : List Str := ["well", "most", "names", "turn", "minute", "calls"]
theorem sc__law_calls : FnScope N__law_calls ["well", "most"] (defScope s__law_calls) := ⟨rfl, rfl, rfl, by decide +kernel, rfl, by decide +kernel, by decide +kernel⟩
abbrev s__law_plan : Stmt := topS 36
abbrev N__law_plan : List Str := ["well", "many", "most", "turn", "calendar", "number", "trains"]
theorem sc__law_plan : FnScope N__law_plan ["well", "many", "most"] (defScope s__law_plan) := ⟨rfl, rfl, rfl, by decide +kernel, rfl, by decide +kernel, by decide +kernel⟩
abbrev s__law_all : Stmt := topS 37
abbrev N__law_all : List Str := ["plan", "found", "name", "minute", "number", "place"]
theorem sc__law_all : FnScope N__law_all ["plan"] (defScope s__law_all) := ⟨rfl, rfl, rfl, by decide +kernel, rfl, by decide +kernel, by decide +kernel⟩
abbrev s__law_of_train : Stmt := topS 38
abbrev N__law_of_train : List Str := ["train", "place", "call"]
theorem sc__law_of_train : FnScope N__law_of_train ["train"] (defScope s__law_of_train) := ⟨rfl, rfl, rfl, by decide +kernel, rfl, by decide +kernel, by decide +kernel⟩
abbrev s__law_is_whole : Stmt := topS 39
abbrev N__law_is_whole : List Str := ["plan", "train", "told", "due", "name", "minute", "number", "place"]
theorem sc__law_is_whole : FnScope N__law_is_whole ["plan"] (defScope s__law_is_whole) := ⟨rfl, rfl, rfl, by decide +kernel, rfl, by decide +kernel, by decide +kernel⟩
abbrev s_law : Stmt := topS 40
abbrev N_law : List Str := ["script", "well", "turn", "number", "more", "told", "fewer", "other_days", "calendar", "trains", "plan", "wider", "train"]
theorem sc_law : FnScope N_law ["script"] (defScope s_law) := ⟨rfl, rfl, rfl, by decide +kernel, rfl, by decide +kernel, by decide +kernel⟩
structure Txt (K : PySem.W.Frag) (mg : Str → Option Value) where
  f_is_integer : Addr
  fd_is_integer : FuncData
  F_is_integer : Fun K "is_integer" "is_integer" s_is_integer f_is_integer fd_is_integer
  g_is_integer : mg "is_integer" = some (.ref f_is_integer)
  f_is_within : Addr
  fd_is_within : FuncData
  F_is_within : Fun K "is_within" "is_within" s_is_within f_is_within fd_is_within
  g_is_within : mg "is_within" = some (.ref f_is_within)
  f_is_tuple_of : Addr
  fd_is_tuple_of : FuncData
  F_is_tuple_of : Fun K "is_tuple_of" "is_tuple_of" s_is_tuple_of f_is_tuple_of fd_is_tuple_of
  g_is_tuple_of : mg "is_tuple_of" = some (.ref f_is_tuple_of)
  f_ascends : Addr
  fd_ascends : FuncData
  F_ascends : Fun K "ascends" "ascends" s_ascends f_ascends fd_ascends
  g_ascends : mg "ascends" = some (.ref f_ascends)
  f_is_name : Addr
  fd_is_name : FuncData
  F_is_name : Fun K "is_name" "is_name" s_is_name f_is_name fd_is_name
  g_is_name : mg "is_name" = some (.ref f_is_name)
  f_is_call : Addr
  fd_is_call : FuncData
  F_is_call : Fun K "is_call" "is_call" s_is_call f_is_call fd_is_call
  g_is_call : mg "is_call" = some (.ref f_is_call)
  f_are_days : Addr
  fd_are_days : FuncData
  F_are_days : Fun K "are_days" "are_days" s_are_days f_are_days fd_are_days
  g_are_days : mg "are_days" = some (.ref f_are_days)
  f_is_calendar : Addr
  fd_is_calendar : FuncData
  F_is_calendar : Fun K "is_calendar" "is_calendar" s_is_calendar f_is_calendar fd_is_calendar
  g_is_calendar : mg "is_calendar" = some (.ref f_is_calendar)
  f_calls_error : Addr
  fd_calls_error : FuncData
  F_calls_error : Fun K "calls_error" "calls_error" s_calls_error f_calls_error fd_calls_error
  g_calls_error : mg "calls_error" = some (.ref f_calls_error)
  f_train_error : Addr
  fd_train_error : FuncData
  F_train_error : Fun K "train_error" "train_error" s_train_error f_train_error fd_train_error
  g_train_error : mg "train_error" = some (.ref f_train_error)
  f_count_error : Addr
  fd_count_error : FuncData
  F_count_error : Fun K "count_error" "count_error" s_count_error f_count_error fd_count_error
  g_count_error : mg "count_error" = some (.ref f_count_error)
  f_plan_error : Addr
  fd_plan_error : FuncData
  F_plan_error : Fun K "plan_error" "plan_error" s_plan_error f_plan_error fd_plan_error
  g_plan_error : mg "plan_error" = some (.ref f_plan_error)
  f_stations_of : Addr
  fd_stations_of : FuncData
  F_stations_of : Fun K "stations_of" "stations_of" s_stations_of f_stations_of fd_stations_of
  g_stations_of : mg "stations_of" = some (.ref f_stations_of)
  f_calls_at : Addr
  fd_calls_at : FuncData
  F_calls_at : Fun K "calls_at" "calls_at" s_calls_at f_calls_at fd_calls_at
  g_calls_at : mg "calls_at" = some (.ref f_calls_at)
  f_train_of : Addr
  fd_train_of : FuncData
  F_train_of : Fun K "train_of" "train_of" s_train_of f_train_of fd_train_of
  g_train_of : mg "train_of" = some (.ref f_train_of)
  f_minute_of : Addr
  fd_minute_of : FuncData
  F_minute_of : Fun K "minute_of" "minute_of" s_minute_of f_minute_of fd_minute_of
  g_minute_of : mg "minute_of" = some (.ref f_minute_of)
  f__law_well : Addr
  fd__law_well : FuncData
  F__law_well : Fun K "_law_well" "_law_well" s__law_well f__law_well fd__law_well
  g__law_well : mg "_law_well" = some (.ref f__law_well)
  f__law_draw : Addr
  fd__law_draw : FuncData
  F__law_draw : Fun K "_law_draw" "_law_draw" s__law_draw f__law_draw fd__law_draw
  g__law_draw : mg "_law_draw" = some (.ref f__law_draw)
  f__law_pick : Addr
  fd__law_pick : FuncData
  F__law_pick : Fun K "_law_pick" "_law_pick" s__law_pick f__law_pick fd__law_pick
  g__law_pick : mg "_law_pick" = some (.ref f__law_pick)
  f__law_calendar : Addr
  fd__law_calendar : FuncData
  F__law_calendar : Fun K "_law_calendar" "_law_calendar" s__law_calendar f__law_calendar fd__law_calendar
  g__law_calendar : mg "_law_calendar" = some (.ref f__law_calendar)
  f__law_some : Addr
  fd__law_some : FuncData
  F__law_some : Fun K "_law_some" "_law_some" s__law_some f__law_some fd__law_some
  g__law_some : mg "_law_some" = some (.ref f__law_some)
  f__law_calls : Addr
  fd__law_calls : FuncData
  F__law_calls : Fun K "_law_calls" "_law_calls" s__law_calls f__law_calls fd__law_calls
  g__law_calls : mg "_law_calls" = some (.ref f__law_calls)
  f__law_plan : Addr
  fd__law_plan : FuncData
  F__law_plan : Fun K "_law_plan" "_law_plan" s__law_plan f__law_plan fd__law_plan
  g__law_plan : mg "_law_plan" = some (.ref f__law_plan)
  f__law_all : Addr
  fd__law_all : FuncData
  F__law_all : Fun K "_law_all" "_law_all" s__law_all f__law_all fd__law_all
  g__law_all : mg "_law_all" = some (.ref f__law_all)
  f__law_of_train : Addr
  fd__law_of_train : FuncData
  F__law_of_train : Fun K "_law_of_train" "_law_of_train" s__law_of_train f__law_of_train fd__law_of_train
  g__law_of_train : mg "_law_of_train" = some (.ref f__law_of_train)
  f__law_is_whole : Addr
  fd__law_is_whole : FuncData
  F__law_is_whole : Fun K "_law_is_whole" "_law_is_whole" s__law_is_whole f__law_is_whole fd__law_is_whole
  g__law_is_whole : mg "_law_is_whole" = some (.ref f__law_is_whole)
  f_law : Addr
  fd_law : FuncData
  F_law : Fun K "law" "law" s_law f_law fd_law
  g_law : mg "law" = some (.ref f_law)
  t_MAX_NAME : Tok
  g_MAX_NAME : mg "MAX_NAME" = some (.int (12) t_MAX_NAME)
  t_MAX_NUMBER : Tok
  g_MAX_NUMBER : mg "MAX_NUMBER" = some (.int (9999) t_MAX_NUMBER)
  t_MAX_MINUTE : Tok
  g_MAX_MINUTE : mg "MAX_MINUTE" = some (.int (2879) t_MAX_MINUTE)
  t_MAX_SPAN : Tok
  g_MAX_SPAN : mg "MAX_SPAN" = some (.int (400) t_MAX_SPAN)
  t_MAX_TRAINS : Tok
  g_MAX_TRAINS : mg "MAX_TRAINS" = some (.int (24) t_MAX_TRAINS)
  t_MAX_STATIONS : Tok
  g_MAX_STATIONS : mg "MAX_STATIONS" = some (.int (16) t_MAX_STATIONS)
  t_MAX_CALLS : Tok
  g_MAX_CALLS : mg "MAX_CALLS" = some (.int (200) t_MAX_CALLS)
  t_LETTERS : Tok
  g_LETTERS : mg "LETTERS" = some (.str "abcdefghijklmnopqrstuvwxyz" t_LETTERS)
  lc_NoTrain : Addr
  li_NoTrain : Addr
  low_NoTrain : PySem.LowX.LowTxt "NoTrain" "NoTrain.__init__" K mg lc_NoTrain li_NoTrain
  ex_NoTrain : ExcC K lc_NoTrain
  le_NoTrain : PySem.W.exmOne K (.ref lc_NoTrain) (.ref lc_NoTrain) = some true
  n_len : mg "len" = none
  n_int : mg "int" = none
  n_abs : mg "abs" = none
  n_range : mg "range" = none
  n_enumerate : mg "enumerate" = none
  n_list : mg "list" = none
  n_repr : mg "repr" = none
  n_tuple : mg "tuple" = none
  n_isinstance : mg "isinstance" = none
  n_bool : mg "bool" = none
  n_str : mg "str" = none
  n_all : mg "all" = none
  n_zip : mg "zip" = none
  n_set : mg "set" = none
  n_sorted : mg "sorted" = none
section
variable {K : PySem.W.Frag} {mg : Str → Option Value} (T : Txt K mg)
include T
theorem Txt.b_is_integer : Binds K T.fd_is_integer ["value"] [] := T.F_is_integer.binds fun _ _ _ _ _ _ us hl => match us, hl with | [_], _ => rfl
theorem Txt.b_is_within : Binds K T.fd_is_within ["value", "low", "high"] [] := T.F_is_within.binds fun _ _ _ _ _ _ us hl => match us, hl with | [_, _, _], _ => rfl
theorem Txt.b_is_tuple_of : Binds K T.fd_is_tuple_of ["value", "many"] [] := T.F_is_tuple_of.binds fun _ _ _ _ _ _ us hl => match us, hl with | [_, _], _ => rfl
theorem Txt.b_ascends : Binds K T.fd_ascends ["items"] [] := T.F_ascends.binds fun _ _ _ _ _ _ us hl => match us, hl with | [_], _ => rfl
theorem Txt.b_is_name : Binds K T.fd_is_name ["value"] [] := T.F_is_name.binds fun _ _ _ _ _ _ us hl => match us, hl with | [_], _ => rfl
theorem Txt.b_is_call : Binds K T.fd_is_call ["value"] [] := T.F_is_call.binds fun _ _ _ _ _ _ us hl => match us, hl with | [_], _ => rfl
theorem Txt.b_are_days : Binds K T.fd_are_days ["value", "length"] [] := T.F_are_days.binds fun _ _ _ _ _ _ us hl => match us, hl with | [_, _], _ => rfl
theorem Txt.b_is_calendar : Binds K T.fd_is_calendar ["value"] [] := T.F_is_calendar.binds fun _ _ _ _ _ _ us hl => match us, hl with | [_], _ => rfl
theorem Txt.b_calls_error : Binds K T.fd_calls_error ["calls", "place"] [] := T.F_calls_error.binds fun _ _ _ _ _ _ us hl => match us, hl with | [_, _], _ => rfl
theorem Txt.b_train_error : Binds K T.fd_train_error ["trains", "place", "length"] [] := T.F_train_error.binds fun _ _ _ _ _ _ us hl => match us, hl with | [_, _, _], _ => rfl
theorem Txt.b_count_error : Binds K T.fd_count_error ["trains"] [] := T.F_count_error.binds fun _ _ _ _ _ _ us hl => match us, hl with | [_], _ => rfl
theorem Txt.b_plan_error : Binds K T.fd_plan_error ["value"] [] := T.F_plan_error.binds fun _ _ _ _ _ _ us hl => match us, hl with | [_], _ => rfl
theorem Txt.b_stations_of : Binds K T.fd_stations_of ["plan"] [] := T.F_stations_of.binds fun _ _ _ _ _ _ us hl => match us, hl with | [_], _ => rfl
theorem Txt.b_calls_at : Binds K T.fd_calls_at ["plan", "name"] [] := T.F_calls_at.binds fun _ _ _ _ _ _ us hl => match us, hl with | [_, _], _ => rfl
theorem Txt.b_train_of : Binds K T.fd_train_of ["plan", "number"] [] := T.F_train_of.binds fun _ _ _ _ _ _ us hl => match us, hl with | [_, _], _ => rfl
theorem Txt.b_minute_of : Binds K T.fd_minute_of ["plan", "mark"] [] := T.F_minute_of.binds fun _ _ _ _ _ _ us hl => match us, hl with | [_, _], _ => rfl
theorem Txt.b__law_well : Binds K T.fd__law_well ["script"] [] := T.F__law_well.binds fun _ _ _ _ _ _ us hl => match us, hl with | [_], _ => rfl
theorem Txt.b__law_draw : Binds K T.fd__law_draw ["well", "many"] [] := T.F__law_draw.binds fun _ _ _ _ _ _ us hl => match us, hl with | [_, _], _ => rfl
theorem Txt.b__law_pick : Binds K T.fd__law_pick ["well", "items"] [] := T.F__law_pick.binds fun _ _ _ _ _ _ us hl => match us, hl with | [_, _], _ => rfl
theorem Txt.b__law_calendar : Binds K T.fd__law_calendar ["well", "most"] [] := T.F__law_calendar.binds fun _ _ _ _ _ _ us hl => match us, hl with | [_, _], _ => rfl
theorem Txt.b__law_some : Binds K T.fd__law_some ["well", "length"] [] := T.F__law_some.binds fun _ _ _ _ _ _ us hl => match us, hl with | [_, _], _ => rfl
theorem Txt.b__law_calls : Binds K T.fd__law_calls ["well", "most"] [] := T.F__law_calls.binds fun _ _ _ _ _ _ us hl => match us, hl with | [_, _], _ => rfl
theorem Txt.b__law_plan : Binds K T.fd__law_plan ["well", "many", "most"] [] := T.F__law_plan.binds fun _ _ _ _ _ _ us hl => match us, hl with | [_, _, _], _ => rfl
theorem Txt.b__law_all : Binds K T.fd__law_all ["plan"] [] := T.F__law_all.binds fun _ _ _ _ _ _ us hl => match us, hl with | [_], _ => rfl
theorem Txt.b__law_of_train : Binds K T.fd__law_of_train ["train"] [] := T.F__law_of_train.binds fun _ _ _ _ _ _ us hl => match us, hl with | [_], _ => rfl
theorem Txt.b__law_is_whole : Binds K T.fd__law_is_whole ["plan"] [] := T.F__law_is_whole.binds fun _ _ _ _ _ _ us hl => match us, hl with | [_], _ => rfl
end
theorem sz (n : Nat) (h : n ≤ 16777216) : n ≤ sizeLine := by
  rw [sizeLine_eq]
  exact h

end K07

namespace K07
open PySem PySem.Spec PyProof.Rows L2 Dl
section
variable {P : Program} {w : World} {K : PySem.W.Frag} {mg : Str → Option Value} {base : Heap} (T : Txt K mg)
def isInt : PyData → Bool
  | .int _ => true
  | _ => false
def isBool : PyData → Bool
  | .bool _ => true
  | _ => false
def isIB : PyData → Bool
  | .int _ => true
  | .bool _ => true
  | _ => false
def isTup : PyData → Bool
  | .tuple _ => true
  | _ => false
def isStr : PyData → Bool
  | .str _ => true
  | _ => false
theorem kit_int (d : PyData) : kitB (clsD d) "int" = some (isIB d) := by cases d <;> (dsimp only [clsD, isIB]; decide +kernel)
theorem kit_bool (d : PyData) : kitB (clsD d) "bool" = some (isBool d) := by cases d <;> (dsimp only [clsD, isBool]; decide +kernel)
theorem kit_tup (d : PyData) : kitB (clsD d) "tuple" = some (isTup d) := by cases d <;> (dsimp only [clsD, isTup]; decide +kernel)
theorem kit_str (d : PyData) : kitB (clsD d) "str" = some (isStr d) := by cases d <;> (dsimp only [clsD, isStr]; decide +kernel)
/-- a whole number from lo to hi -/
def wi (lo hi : Int) : PyData → Bool
  | .int i => decide (lo ≤ i) && decide (i ≤ hi)
  | _ => false
def tupN (n : Int) : PyData → Bool
  | .tuple ds => decide ((ds.length : Int) = n)
  | _ => false
theorem ok_is_integer : FnOk P w K mg base CX0 1 T.f_is_integer T.fd_is_integer ["value"] (spN K 1 (fun _ => True) fun ds d => ∃ x, ds = [x] ∧ d = .bool (isInt x)) := by
  refine ok_N T.F_is_integer sc_is_integer fun cdv A outer s H E hr ds hl hp => ⟨_, (pss_cons (ps_ret (pe_and (pe_callB call_isi rfl T.n_isinstance (by decide +kernel) (pa_cons (pv 0) (pa_cons (pe_bltn (v := .ty "int") rfl T.n_int (by decide +kernel) rfl) pa_nil))) (pe_one (pe_not (pe_callB call_isi rfl T.n_isinstance (by decide +kernel) (pa_cons (pv 0) (pa_cons (pe_bltn (v := .ty "bool") rfl T.n_bool (by decide +kernel) rfl) pa_nil))))))) pss_nil), ?_⟩
  match ds, hl with
  | [x], _ =>
  show StG K Fx.non _ _ [.dat x] _
  refine st_retSeq ((ev_and (b := isIB x) (c := !isBool x) (ev_isi (ev_var rfl) (kit_int x)) (fun _ => ev_not (ev_isi (ev_var rfl) (kit_bool x)))).imp fun d e => ⟨x, rfl, ?_⟩)
  rw [e]
  cases x <;> rfl
def iwP (ds : List PyData) : Prop := ∃ (x : PyData) (lo hi : Int), ds = [x, .int lo, .int hi]
def iwQ (ds : List PyData) (d : PyData) : Prop := ∀ (x : PyData) (lo hi : Int), ds = [x, .int lo, .int hi] → d = .bool (wi lo hi x)
theorem ok_is_within : FnOk P w K mg base CX0 2 T.f_is_within T.fd_is_within ["value", "low", "high"] (spN K 3 iwP iwQ) := by
  refine ok_N T.F_is_within sc_is_within fun cdv A outer s H E hr ds hl hp => ⟨_, (pss_cons (ps_ret (pe_and (pe_call (ok_is_integer T) (hr.mono (by decide)) rfl T.g_is_integer T.F_is_integer.kp T.b_is_integer .nil pass0 (pa_cons (pv 0) pa_nil)) (pe_one (pe_chain op_le op_le (pv 1) (pv 0) (pv 2))))) pss_nil), ?_⟩
  obtain ⟨x, lo, hi, rfl⟩ := hp
  show StG K Fx.non _ _ [.dat x, .dat (.int lo), .dat (.int hi)] _
  have q : ∀ b : Bool, b = wi lo hi x → iwQ [x, .int lo, .int hi] (.bool b) := fun b e y l h z => by
    have e3 : x = y ∧ lo = l ∧ hi = h := by simpa using z
    obtain ⟨rfl, rfl, rfl⟩ := e3
    rw [e]
  refine st_retSeq ((ev_and (b := isInt x) (c := wi lo hi x) (ev_callND (ea_consD (ev_var rfl) ea_nil) rfl trivial fun d ⟨y, e, h⟩ => by cases e; exact h) fun hb => ?_).imp fun d e => ?_)
  · cases x with
    | int i => exact ev_chain (ev_var rfl) (ev_var rfl) (ev_var rfl) (rd_I0 fun _ => .bl _) (rd_I0 fun _ => .bl _)
    | _ => cases hb
  · rw [e]
    refine q _ ?_
    cases x <;> rfl
def itP (ds : List PyData) : Prop := ∃ (x : PyData) (n : Int), ds = [x, .int n]
def itQ (ds : List PyData) (d : PyData) : Prop := ∀ (x : PyData) (n : Int), ds = [x, .int n] → d = .bool (tupN n x)
theorem ok_is_tuple_of : FnOk P w K mg base CX0 1 T.f_is_tuple_of T.fd_is_tuple_of ["value", "many"] (spN K 2 itP itQ) := by
  refine ok_N T.F_is_tuple_of sc_is_tuple_of fun cdv A outer s H E hr ds hl hp => ⟨_, (pss_cons (ps_ret (pe_and (pe_callB call_isi rfl T.n_isinstance (by decide +kernel) (pa_cons (pv 0) (pa_cons (pe_bltn (v := .ty "tuple") rfl T.n_tuple (by decide +kernel) rfl) pa_nil))) (pe_one (pe_cmpR op_eq (pe_callB call_len_seq rfl T.n_len (by decide +kernel) (pa_cons (pv 0) pa_nil)) (pv 1) (nomark _))))) pss_nil), ?_⟩
  obtain ⟨x, n, rfl⟩ := hp
  show StG K Fx.non _ _ [.dat x, .dat (.int n)] _
  refine st_retSeq ((ev_and (b := isTup x) (c := tupN n x) (ev_isi (ev_var rfl) (kit_tup x)) fun hb => ?_).imp fun d e => ?_)
  · cases x with
    | tuple ds => exact ev_opD (ev_cbD (ea_consD (ev_var rfl) ea_nil) rc_lenT) (ev_var rfl) rd_eqI
    | _ => cases hb
  · rw [e]
    intro y l z
    have e3 : x = y ∧ n = l := by simpa using z
    obtain ⟨rfl, rfl⟩ := e3
    cases x <;> rfl
/-- rows of ints that rise -/
def ascL (ns : List Int) : List Bool := List.zipWith (fun a b => decide (a < b)) ns (ns.drop 1)
def asc (ns : List Int) : Bool := (ascL ns).all id
theorem cut1 (xs : List PyData) : cutQ xs (some 1) none = xs.drop 1 := by
  unfold cutQ
  have e1 : HT.sIx xs.length 0 (some 1) = min 1 xs.length := HT.sIx_nat _ _ 1
  rw [e1]
  show (xs.drop (min 1 xs.length)).take (xs.length - min 1 xs.length) = _
  cases xs with
  | nil => rfl
  | cons x xs =>
    have : min 1 (x :: xs).length = 1 := by rw [List.length_cons]; omega
    rw [this, ← List.length_drop, List.take_length]
def asP (ds : List PyData) : Prop := ∃ ns : List Int, ds = [.tuple (ns.map .int)] ∧ ns.length ≤ 100000
def asQ (ds : List PyData) (d : PyData) : Prop := ∀ ns : List Int, ds = [.tuple (ns.map .int)] → d = .bool (asc ns)
theorem int_inj : ∀ {a b : List Int}, a.map PyData.int = b.map PyData.int → a = b
  | [], [], _ => rfl
  | [], _ :: _, h => nomatch h
  | _ :: _, [], h => nomatch h
  | x :: a, y :: b, h => by
    simp only [List.map_cons, List.cons.injEq, PyData.int.injEq] at h
    rw [h.1, int_inj h.2]
theorem ok_ascends : FnOk P w K mg base CX0 1 T.f_ascends T.fd_ascends ["items"] (spN K 1 asP asQ) := by
  refine ok_N T.F_ascends sc_ascends fun cdv A outer s H E hr ds hl hp => ⟨_, (pss_cons (ps_ret (pe_callB (cr_all rfl) rfl T.n_all (by decide +kernel) (pa_cons (pe_lc (own := [("low", 1), ("high", 2)]) rfl sc_ascends.nd (RZ.pi_zipA rfl T.n_zip (pa_cons (pv 0) (pa_cons (pe_slice sl_tupA (pv 0) (po_some pe_int) po_none) pa_nil))) (blkOk_by (N := N_ascends) (sc := defScope s_ascends) (by decide +kernel)) (fun _ _ _ _ _ => (pg_tup (by rfl) (pgs_cons (pg_name (i := 1) sc_ascends.nd (by rfl) (Or.inl (by rfl)) (Or.inr (by rfl))) (pgs_cons (pg_name (i := 2) sc_ascends.nd (by rfl) (Or.inl (by rfl)) (Or.inr (by rfl))) pgs_nil)) : PG _ _ (gTup K 2 _))) (fun _ _ _ _ _ => pts_nil) (fun _ _ _ _ _ => (pe_cmpR op_lt (pv 1) (pv 2) (nomark _)))) pa_nil))) pss_nil), ?_⟩
  obtain ⟨ns, rfl, hz⟩ := hp
  show StG K Fx.non _ _ [.dat (.tuple (ns.map .int)), .any, .any] _
  refine st_retSeq ((ev_cbD (P := (· = .bool (asc ns))) (ea_consD (d := .list ((ascL ns).map .bool)) (EvF.evD (EvF.imp (evf_map (ds := zips (ns.map .int) ((ns.map PyData.int).drop 1)) (vs := [1, 2]) (fun v hv => by simp at hv; rcases hv with rfl | rfl; exact (show 1 < 3 by decide); exact (show 2 < 3 by decide)) (ei_zipT (ev_var rfl) ((ev_slTv (ev_var rfl) (eov_some ev_int) eov_no).imp fun d e => by rw [e, cut1])) ?_ (fun _ => true) (fun x => match x with | .tuple [.int a, .int b] => .bool (decide (a < b)) | x => x) ?_) fun es e => ?_)) ea_nil) rc_all).imp fun d e m hm => ?_)
  · unfold zips
    rw [List.length_zipWith, List.length_map]
    omega
  · intro x hx
    unfold zips at hx
    rw [← List.map_drop, List.zipWith_map] at hx
    obtain ⟨i, hi⟩ := List.getElem?_of_mem hx
    rw [List.getElem?_zipWith] at hi
    cases z1 : ns[i]? with
    | none =>
      rw [z1] at hi
      cases hi
    | some a =>
      cases z2 : (ns.drop 1)[i]? with
      | none =>
        rw [z1, z2] at hi
        cases hi
      | some b =>
        rw [z1, z2] at hi
        cases hi
        exact ⟨_, [1, 2], fun j hj => hj, eg_tup (egs_cons (eg_name (show 1 < 3 by decide)) (egs_cons (eg_name (show 2 < 3 by decide)) egs_nil)) rfl, pt_yes, fun _ => ev_opD (ev_var rfl) (ev_var rfl) (rd_I0 fun _ => .bl _)⟩
  · rw [e, List.filter_eq_self.mpr (fun _ _ => rfl)]
    unfold zips ascL
    rw [← List.map_drop, List.zipWith_map, List.map_zipWith, List.map_zipWith]
  · have e1 : ns.map PyData.int = m.map PyData.int := by simpa using hm
    rw [e, ← int_inj e1]
def letters : Str := "abcdefghijklmnopqrstuvwxyz"
def nameB : PyData → Bool
  | .str z => decide ((1 : Int) ≤ (z.length : Int)) && decide ((z.length : Int) ≤ 12) && z.cps.toList.all fun c => decide (c ∈ letters.cps.toList)
  | _ => false
def short (d : PyData) : Prop := ∀ z : Str, d = .str z → z.length ≤ 1000
theorem ok_is_name : FnOk P w K mg base CX0 1 T.f_is_name T.fd_is_name ["value"] (spN K 1 (fun ds => ∃ x, ds = [x] ∧ short x) (fun ds d => ∃ x, ds = [x] ∧ d = .bool (nameB x))) := by
  refine ok_N T.F_is_name sc_is_name fun cdv A outer s H E hr ds hl hp => ⟨_, (pss_cons (ps_if (PW.pt (pw_or (pt_not (pt_val (pe_callB call_isi rfl T.n_isinstance (by decide +kernel) (pa_cons (pv 0) (pa_cons (pe_bltn (v := .ty "str") rfl T.n_str (by decide +kernel) rfl) pa_nil))))) (pw_or1 (pt_not (pt_chain op_le op_le pe_int (pe_callB call_len_str rfl T.n_len (by decide +kernel) (pa_cons (pv 0) pa_nil)) (pe_glob (v := .int 12) rfl T.g_MAX_NAME ⟨_, rfl⟩)))))) (pss_cons (ps_ret pe_bl) pss_nil) pss_nil) (pss_cons (ps_ret (pe_callB (cr_all rfl) rfl T.n_all (by decide +kernel) (pa_cons (pe_lc (own := [("sign", 1)]) rfl sc_is_name.nd (pi_str (pv 0)) (blkOk_by (N := N_is_name) (sc := defScope s_is_name) (by decide +kernel)) (fun _ _ _ _ _ => pg_name (i := 1) sc_is_name.nd rfl (Or.inl rfl)) (fun _ _ _ _ _ => pts_nil) (fun _ _ _ _ _ => (pe_cmpR op_in_sign (pv 1) (pe_glob (v := .str "abcdefghijklmnopqrstuvwxyz") rfl T.g_LETTERS ⟨_, rfl⟩) rfl))) pa_nil))) pss_nil)), ?_⟩
  obtain ⟨x, rfl, hx⟩ := hp
  show StG K Fx.non _ _ [.dat x, .any] _
  by_cases hs : isStr x = true
  · cases x with
    | str z =>
      have hz := hx z rfl
      refine st_ifD (b := !(decide ((1 : Int) ≤ (z.length : Int)) && decide ((z.length : Int) ≤ 12))) ?_ (fun hb => st_flat (st_retSeq (ev_bl.imp fun d e => ⟨_, rfl, ?_⟩))) (fun hb => st_nextSeq (st_retSeq ((ev_allS (F := letters) (ev_var rfl) (show 1 < 2 by decide) (by omega)).imp fun d e => ⟨_, rfl, ?_⟩)))
      · exact (et_orD (b := false) ((et_notD (et_BD (ev_isi (d := .str z) (ev_var rfl) (kit_str _)))).imp fun b e => by rw [e]; rfl) fun _ => et_notD (et_testD (ev_chain ev_int (ev_cbD (ea_consD (ev_var rfl) ea_nil) (rc_lenS (sz _ (by omega)))) ev_int (rd_I0 fun _ => .bl _) (rd_I0 fun _ => .bl _)))).imp fun b e => by rw [e, Bool.false_or]
      · rw [e]
        unfold nameB
        dsimp only
        rw [Bool.not_eq_true'] at hb
        rw [hb]
        rfl
      · rw [e]
        unfold nameB
        dsimp only
        rw [Bool.not_eq_false'] at hb
        rw [hb]
        rfl
    | _ => cases hs
  · refine st_ifD (b := true) ?_ (fun _ => st_flat (st_retSeq (ev_bl.imp fun d e => ⟨x, rfl, ?_⟩))) (fun h => nomatch h)
    · refine (et_orD (b := true) (c := false) ((et_notD (et_BD (ev_isi (ev_var rfl) (kit_str _)))).imp fun b e => ?_) (fun h => nomatch h)).imp fun b e => e
      rw [e]
      cases z : isStr x
      · rfl
      · exact absurd z hs
    · rw [e]
      cases x with
      | str z => exact absurd rfl hs
      | _ => rfl
def callB : PyData → Bool
  | .tuple [z, m] => nameB z && wi 0 2879 m
  | _ => false
/-- texts within are short -/
def tameC (d : PyData) : Prop := ∀ ds : List PyData, d = .tuple ds → ∀ x ∈ ds, short x
theorem ev_within {W : Fx} {ρ : List Sk} {ta tb tc : TE} {E : XK} {x : PyData} {lo hi : Int} (h1 : EvD K W ta ρ x) (h2 : EvD K W tb ρ (.int lo)) (h3 : EvD K W tc ρ (.int hi)) :
    EvD K W (tCall (spN K 3 iwP iwQ) [] E (tCons ta (tCons tb (tCons tc tNil)))) ρ (.bool (wi lo hi x)) :=
  ev_callND (ea_consD h1 (ea_consD h2 (ea_consD h3 ea_nil))) rfl ⟨x, lo, hi, rfl⟩ fun d h => h x lo hi rfl
theorem ev_tupleOf {W : Fx} {ρ : List Sk} {ta tb : TE} {E : XK} {x : PyData} {n : Int} (h1 : EvD K W ta ρ x) (h2 : EvD K W tb ρ (.int n)) :
    EvD K W (tCall (spN K 2 itP itQ) [] E (tCons ta (tCons tb tNil))) ρ (.bool (tupN n x)) :=
  ev_callND (ea_consD h1 (ea_consD h2 ea_nil)) rfl ⟨x, n, rfl⟩ fun d h => h x n rfl
theorem tupN_of {n : Nat} {x : PyData} (h : tupN n x = true) : ∃ ds, x = .tuple ds ∧ ds.length = n := by
  cases x with
  | tuple ds =>
    have := of_decide_eq_true h
    exact ⟨ds, rfl, by omega⟩
  | _ => cases h
theorem ok_is_call : FnOk P w K mg base CX0 3 T.f_is_call T.fd_is_call ["value"] (spN K 1 (fun ds => ∃ x, ds = [x] ∧ tameC x) (fun ds d => ∃ x, ds = [x] ∧ d = .bool (callB x))) := by
  refine ok_N T.F_is_call sc_is_call fun cdv A outer s H E hr ds hl hp => ⟨_, (pss_cons (ps_ret (pe_and (pe_call (ok_is_tuple_of T) (hr.mono (by decide)) rfl T.g_is_tuple_of T.F_is_tuple_of.kp T.b_is_tuple_of .nil pass0 (pa_cons (pv 0) (pa_cons pe_int pa_nil))) (pe_and (pe_call (ok_is_name T) (hr.mono (by decide)) rfl T.g_is_name T.F_is_name.kp T.b_is_name .nil pass0 (pa_cons (pe_ix ix_tup (pv 0) pe_int (fun _ _ => rfl)) pa_nil)) (pe_one (pe_call (ok_is_within T) (hr.mono (by decide)) rfl T.g_is_within T.F_is_within.kp T.b_is_within .nil pass0 (pa_cons (pe_ix ix_tup (pv 0) pe_int (fun _ _ => rfl)) (pa_cons pe_int (pa_cons (pe_glob (v := .int 2879) rfl T.g_MAX_MINUTE ⟨_, rfl⟩) pa_nil)))))))) pss_nil), ?_⟩
  obtain ⟨x, rfl, hx⟩ := hp
  show StG K Fx.non _ _ [.dat x] _
  by_cases h2 : tupN (2 : Nat) x = true
  · obtain ⟨ds, rfl, hl2⟩ := tupN_of h2
    match ds, hl2 with
    | [z, m], _ =>
    refine st_retSeq ((ev_and (b := true) (c := nameB z && wi 0 2879 m) ((ev_tupleOf (ev_var rfl) ev_int).imp fun d e => by rw [e]; rfl) fun _ => ev_and (ev_callND (P := (· = .bool (nameB z))) (ea_consD (ev_opD (ev_var rfl) ev_int (rd_ixT (d := z) rfl)) ea_nil) rfl ⟨z, rfl, hx _ rfl z (by simp)⟩ fun d ⟨y, e, h⟩ => by cases e; exact h) fun _ => ev_within (ev_opD (ev_var rfl) ev_int (rd_ixT (d := m) rfl)) ev_int ev_int).imp fun d e => ⟨_, rfl, by rw [e]; rfl⟩)
  · have h3 : tupN (2 : Nat) x = false := by
      cases z : tupN (2 : Nat) x
      · rfl
      · exact absurd z h2
    refine st_retSeq ((ev_and (b := false) (c := false) ((ev_tupleOf (ev_var rfl) ev_int).imp fun d e => by rw [e]; exact congrArg PyData.bool h3) (fun h => nomatch h)).imp fun d e => ⟨_, rfl, ?_⟩)
    rw [e]
    unfold callB
    split
    · cases h3
    · rfl
def toI : PyData → Int
  | .int i => i
  | _ => 0
def daysB (l : Int) : PyData → Bool
  | .tuple ds => ds.all (wi 0 (l - 1)) && asc (ds.map toI)
  | _ => false
/-- not too many items -/
def few (d : PyData) : Prop := ∀ ds : List PyData, d = .tuple ds → ds.length ≤ 100000
def adP (ds : List PyData) : Prop := ∃ (x : PyData) (l : Int), ds = [x, .int l] ∧ few x
def adQ (ds : List PyData) (d : PyData) : Prop := ∀ (x : PyData) (l : Int), ds = [x, .int l] → d = .bool (daysB l x)
theorem ints_of_wi {lo hi : Int} : ∀ {ds : List PyData}, ds.all (wi lo hi) = true → ds = (ds.map toI).map .int
  | [], _ => rfl
  | x :: ds, h => by
    rw [List.all_cons, Bool.and_eq_true] at h
    have e := ints_of_wi h.2
    cases x with
    | int i =>
      show PyData.int i :: ds = PyData.int i :: (ds.map toI).map .int
      rw [← e]
    | _ => cases h.1
theorem ok_are_days : FnOk P w K mg base CX0 3 T.f_are_days T.fd_are_days ["value", "length"] (spN K 2 adP adQ) := by
  refine ok_N T.F_are_days sc_are_days fun cdv A outer s H E hr ds hl hp => ⟨_, (pss_cons (ps_if (pt_not (pt_val (pe_callB call_isi rfl T.n_isinstance (by decide +kernel) (pa_cons (pv 0) (pa_cons (pe_bltn (v := .ty "tuple") rfl T.n_tuple (by decide +kernel) rfl) pa_nil))))) (pss_cons (ps_ret pe_bl) pss_nil) pss_nil) (pss_cons (ps_ret (pe_and (pe_callB (cr_all rfl) rfl T.n_all (by decide +kernel) (pa_cons (pe_lc (own := [("day", 2)]) rfl sc_are_days.nd (pi_tup (pv 0)) (blkOk_by (N := N_are_days) (sc := defScope s_are_days) (by decide +kernel)) (fun _ _ _ _ _ => pg_name (i := 2) sc_are_days.nd rfl (Or.inl rfl)) (fun _ _ _ _ _ => pts_nil) (fun _ _ _ _ _ => (pe_call (ok_is_within T) (hr.mono (by decide)) rfl T.g_is_within T.F_is_within.kp T.b_is_within .nil pass0 (pa_cons (pv 2) (pa_cons pe_int (pa_cons (pe_op op_sub (pv 1) pe_int) pa_nil)))))) pa_nil)) (pe_one (pe_call (ok_ascends T) (hr.mono (by decide)) rfl T.g_ascends T.F_ascends.kp T.b_ascends .nil pass0 (pa_cons (pv 0) pa_nil))))) pss_nil)), ?_⟩
  obtain ⟨x, l, rfl, hx⟩ := hp
  have fin : ∀ b, b = daysB l x → adQ [x, .int l] (.bool b) := fun b e y m z => by
    have e3 : x = y ∧ l = m := by simpa using z
    obtain ⟨rfl, rfl⟩ := e3
    rw [e]
  show StG K Fx.non _ _ [.dat x, .dat (.int l), .any] _
  refine st_ifD (b := !isTup x) (et_notD (et_BD (ev_isi (ev_var rfl) (kit_tup x)))) (fun hb => st_flat (st_retSeq (ev_bl.imp fun d e => ?_))) (fun hb => st_nextSeq ?_)
  · rw [e]
    refine fin _ ?_
    cases x with
    | tuple ds => cases hb
    | _ => rfl
  · cases x with
    | tuple ds =>
      have hz := hx ds rfl
      refine st_retSeq ((ev_and (b := ds.all (wi 0 (l - 1))) (c := asc (ds.map toI)) ((ev_cbD (P := (· = .bool ((ds.map (wi 0 (l - 1))).all id))) (ea_consD (d := .list ((ds.map (wi 0 (l - 1))).map .bool)) (EvF.evD (EvF.imp (evf_map (ds := ds) (vs := [2]) (fun v hv => by simp at hv; rw [hv]; show 2 < 3; decide) (ei_tup (ev_var rfl)) hz (fun _ => true) (fun x => .bool (wi 0 (l - 1) x)) ?_) fun es e => ?_)) ea_nil) rc_all).imp fun d e => ?_) fun hb => ev_callND (ea_consD (ev_var rfl) ea_nil) rfl ⟨ds.map toI, by rw [← ints_of_wi hb], by rw [List.length_map]; exact hz⟩ fun d h => h (ds.map toI) (by rw [← ints_of_wi hb])).imp fun d e => ?_)
      · intro x hx
        exact ⟨_, [2], fun j hj => hj, eg_name (show 2 < 3 by decide), pt_yes, fun _ => ev_within (ev_var rfl) ev_int (ev_opD (ev_var rfl) ev_int (rd_I0 fun _ => .int _))⟩
      · rw [e, List.filter_eq_self.mpr (fun _ _ => rfl), List.map_map]
        rfl
      · rw [e, List.all_map]
        rfl
      · rw [e]
        exact fin _ rfl
    | _ => cases hb

end
end K07

namespace K07
open PySem PySem.Spec PyProof.Rows L2 Dl
section
variable {P : Program} {w : World} {K : PySem.W.Frag} {mg : Str → Option Value} {base : Heap} (T : Txt K mg)
def calB : PyData → Bool
  | .tuple [f, l, h] => wi 0 6 f && (wi 1 400 l && daysB (toI l) h)
  | _ => false
theorem wi_int {lo hi : Int} {d : PyData} (h : wi lo hi d = true) : d = .int (toI d) ∧ lo ≤ toI d ∧ toI d ≤ hi := by
  cases d with
  | int i =>
    have h : (decide (lo ≤ i) && decide (i ≤ hi)) = true := h
    rw [Bool.and_eq_true, decide_eq_true_eq, decide_eq_true_eq] at h
    exact ⟨rfl, h.1, h.2⟩
  | _ => cases h
def fewC (d : PyData) : Prop := ∀ ds : List PyData, d = .tuple ds → ∀ x ∈ ds, few x
theorem ok_is_calendar : FnOk P w K mg base CX0 4 T.f_is_calendar T.fd_is_calendar ["value"] (spN K 1 (fun ds => ∃ x, ds = [x] ∧ fewC x) (fun ds d => ∃ x, ds = [x] ∧ d = .bool (calB x))) := by
  refine ok_N T.F_is_calendar sc_is_calendar fun cdv A outer s H E hr ds hl hp => ⟨_, (pss_cons (ps_if (pt_not (pt_val (pe_call (ok_is_tuple_of T) (hr.mono (by decide)) rfl T.g_is_tuple_of T.F_is_tuple_of.kp T.b_is_tuple_of .nil pass0 (pa_cons (pv 0) (pa_cons pe_int pa_nil))))) (pss_cons (ps_ret pe_bl) pss_nil) pss_nil) (pss_cons (ps_asg (pv 0) (pg_tup rfl (pgs_cons (pg_name (i := 1) sc_is_calendar.nd rfl (Or.inl rfl)) (pgs_cons (pg_name (i := 2) sc_is_calendar.nd rfl (Or.inl rfl)) (pgs_cons (pg_name (i := 3) sc_is_calendar.nd rfl (Or.inl rfl)) pgs_nil))))) (pss_cons (ps_ret (pe_and (pe_call (ok_is_within T) (hr.mono (by decide)) rfl T.g_is_within T.F_is_within.kp T.b_is_within .nil pass0 (pa_cons (pv 1) (pa_cons pe_int (pa_cons pe_int pa_nil)))) (pe_and (pe_call (ok_is_within T) (hr.mono (by decide)) rfl T.g_is_within T.F_is_within.kp T.b_is_within .nil pass0 (pa_cons (pv 2) (pa_cons pe_int (pa_cons (pe_glob (v := .int 400) rfl T.g_MAX_SPAN ⟨_, rfl⟩) pa_nil)))) (pe_one (pe_call (ok_are_days T) (hr.mono (by decide)) rfl T.g_are_days T.F_are_days.kp T.b_are_days .nil pass0 (pa_cons (pv 3) (pa_cons (pv 2) pa_nil))))))) pss_nil))), ?_⟩
  obtain ⟨x, rfl, hx⟩ := hp
  show StG K Fx.non _ _ [.dat x, .any, .any, .any] _
  refine st_ifD (b := !tupN (3 : Nat) x) (et_notD (et_BD (ev_tupleOf (ev_var rfl) ev_int))) (fun hb => st_flat (st_retSeq (ev_bl.imp fun d e => ⟨_, rfl, ?_⟩))) (fun hb => st_nextSeq ?_)
  · rw [e]
    rw [Bool.not_eq_true'] at hb
    unfold calB
    split
    · cases hb
    · rfl
  · rw [Bool.not_eq_false'] at hb
    obtain ⟨ds, rfl, hl3⟩ := tupN_of hb
    match ds, hl3 with
    | [f, l, h], _ =>
    refine st_asgG (ev_var rfl) fun d0 e0 => ?_
    subst e0
    refine ⟨_, _, eg_tup (egs_cons (eg_name (show 1 < 4 by decide)) (egs_cons (eg_name (show 2 < 4 by decide)) (egs_cons (eg_name (show 3 < 4 by decide)) egs_nil))) rfl, ?_⟩
    refine st_retSeq ((ev_and (b := wi 0 6 f) (c := wi 1 400 l && daysB (toI l) h) (ev_within (ev_var rfl) ev_int ev_int) fun _ => ev_and (ev_within (ev_var rfl) ev_int ev_int) fun hl => ev_callND (ea_consD (ev_var rfl) (ea_consD ((ev_var rfl).imp fun d e => e.trans (wi_int hl).1) ea_nil)) rfl ⟨h, toI l, rfl, hx _ rfl h (by simp)⟩ fun d q => q h (toI l) rfl).imp fun d e => ⟨_, rfl, by rw [e]; rfl⟩)
/-- the minute of a call -/
def minOf : PyData → Int
  | .tuple [_, .int m] => m
  | _ => 0
def noRise (cs : List PyData) (i : Nat) : Bool := match cs[i]?, cs[i - 1]? with
  | some a, some b => decide (minOf a ≤ minOf b)
  | _, _ => false
def badCall (cs : List PyData) (i : Nat) : Bool := match cs[i]? with
  | some c => !callB c
  | none => false
def callsE (p : Int) : PyData → PyData
  | .tuple [] => .tuple [.str "calls", .int p]
  | .tuple cs => match (List.range cs.length).find? (badCall cs) with
    | some i => .tuple [.str "call", .int p, .int (i : Int)]
    | none => match (List.range cs.length).find? (fun i => decide (0 < i) && noRise cs i) with
      | some i => .tuple [.str "rise", .int p, .int (i : Int)]
      | none => .none
  | _ => .tuple [.str "calls", .int p]
def ceP (ds : List PyData) : Prop := ∃ (x : PyData) (p : Int), ds = [x, .int p] ∧ ∀ cs, x = .tuple cs → cs.length ≤ 100000 ∧ ∀ c ∈ cs, tameC c
def ceQ (ds : List PyData) (d : PyData) : Prop := ∀ (x : PyData) (p : Int), ds = [x, .int p] → d = callsE p x
theorem call_of {c : PyData} (h : callB c = true) : ∃ z m, c = .tuple [z, .int m] := by
  unfold callB at h
  split at h
  · rename_i z m
    rw [Bool.and_eq_true] at h
    exact ⟨z, toI m, by rw [← (wi_int h.2).1]⟩
  · cases h
theorem ok_calls_error : FnOk P w K mg base CX0 4 T.f_calls_error T.fd_calls_error ["calls", "place"] (spN K 2 ceP ceQ) := by
  refine ok_N T.F_calls_error sc_calls_error fun cdv A outer s H E hr ds hl hp => ⟨_, (pss_cons (ps_if (PW.pt (pw_or (pt_not (pt_val (pe_callB call_isi rfl T.n_isinstance (by decide +kernel) (pa_cons (pv 0) (pa_cons (pe_bltn (v := .ty "tuple") rfl T.n_tuple (by decide +kernel) rfl) pa_nil))))) (pw_or1 (pt_cmpR op_eq (pe_callB call_len_seq rfl T.n_len (by decide +kernel) (pa_cons (pv 0) pa_nil)) pe_int (nomark _))))) (pss_cons (ps_ret (pe_tup (pa_cons pe_str (pa_cons (pv 1) pa_nil)))) pss_nil) pss_nil) (pss_cons (ps_for PassesOwn.never rfl (pi_enumT rfl T.n_enumerate (pa_cons (pv 0) pa_nil)) (pg_tup rfl (pgs_cons (pg_name (i := 2) sc_calls_error.nd rfl (Or.inl rfl)) (pgs_cons (pg_name (i := 3) sc_calls_error.nd rfl (Or.inl rfl)) pgs_nil))) (pss_cons (ps_if (pt_not (pt_val (pe_call (ok_is_call T) (hr.mono (by decide)) rfl T.g_is_call T.F_is_call.kp T.b_is_call .nil pass0 (pa_cons (pv 3) pa_nil)))) (pss_cons (ps_ret (pe_tup (pa_cons pe_str (pa_cons (pv 1) (pa_cons (pv 2) pa_nil))))) pss_nil) pss_nil) pss_nil)) (pss_cons (ps_for PassesOwn.never rfl (pi_range2 rfl T.n_range (pa_cons pe_int (pa_cons (pe_callB call_len_seq rfl T.n_len (by decide +kernel) (pa_cons (pv 0) pa_nil)) pa_nil))) (pg_name (i := 2) sc_calls_error.nd rfl (Or.inl rfl)) (pss_cons (ps_if (pt_cmpR op_le (pe_ix ix_tup (pe_ix ix_tup (pv 0) (pv 2) (fun _ _ => rfl)) pe_int (fun _ _ => rfl)) (pe_ix ix_tup (pe_ix ix_tup (pv 0) (pe_op op_sub (pv 2) pe_int) (fun _ _ => rfl)) pe_int (fun _ _ => rfl)) (nomark _)) (pss_cons (ps_ret (pe_tup (pa_cons pe_str (pa_cons (pv 1) (pa_cons (pv 2) pa_nil))))) pss_nil) pss_nil) pss_nil)) (pss_cons (ps_ret pe_non) pss_nil)))), ?_⟩
  obtain ⟨x, p, rfl, hx⟩ := hp
  have fin : ∀ d, d = callsE p x → ceQ [x, .int p] d := fun d e y q z => by
    have e3 : x = y ∧ p = q := by simpa using z
    obtain ⟨rfl, rfl⟩ := e3
    exact e
  show StG K Fx.non _ _ [.dat x, .dat (.int p), .any, .any] _
  have mk2 : ([.str "calls", .int p] : List PyData).length ≤ sizeLine := sz _ (by show 2 ≤ _; decide)
  refine st_ifD (b := !isTup x || (match x with | .tuple cs => decide ((cs.length : Int) = 0) | _ => false)) (et_orD (et_notD (et_BD (ev_isi (ev_var rfl) (kit_tup x)))) fun hb => ?_) (fun hb => st_flat (st_retSeq ((ev_tupD (ea_consD ev_str (ea_consD (ev_var rfl) ea_nil)) mk2).imp fun d e => fin d ?_))) (fun hb => st_nextSeq ?_)
  · cases x with
    | tuple cs => exact et_testD (ev_opD (ev_cbD (ea_consD (ev_var rfl) ea_nil) rc_lenT) ev_int rd_eqI)
    | _ => cases hb
  · rw [e]
    cases x with
    | tuple cs =>
      cases cs with
      | nil => rfl
      | cons c cs =>
        have hb : decide ((((c :: cs).length : Nat) : Int) = 0) = true := hb
        have := of_decide_eq_true hb
        rw [List.length_cons] at this
        omega
    | _ => rfl
  cases x with
  | tuple cs =>
    have hne : cs ≠ [] := fun z => by
      subst z
      cases hb
    obtain ⟨hlen, htame⟩ := hx cs rfl
    obtain ⟨c0, cs0, rfl⟩ : ∃ c0 cs0, cs = c0 :: cs0 := by
      cases cs with
      | nil => exact absurd rfl hne
      | cons a b => exact ⟨a, b, rfl⟩
    generalize hcs : c0 :: cs0 = cs at *
    have spec : callsE p (.tuple cs) = (match (List.range cs.length).find? (badCall cs) with
    | some i => .tuple [.str "call", .int p, .int (i : Int)]
    | none => match (List.range cs.length).find? (fun i => decide (0 < i) && noRise cs i) with
      | some i => .tuple [.str "rise", .int p, .int (i : Int)]
      | none => .none) := by
      rw [← hcs]
      rfl
    refine st_for (ei_enumT (ev_var rfl)) (fun _ i ρ => ∃ s2 s3 : Sk, ρ = [.dat (.tuple cs), .dat (.int p), s2, s3] ∧ ∀ j, j < i → badCall cs j = false) (fun ρ => ∃ s2 s3 : Sk, ρ = [.dat (.tuple cs), .dat (.int p), s2, s3] ∧ ∀ j, j < cs.length → badCall cs j = false) (fun _ _ => ⟨_, _, rfl, fun j h => nomatch h⟩) ?_ ?_ ?_
    · rintro _ i d ρ1 rfl hd ⟨s2, s3, rfl, hbad⟩
      obtain ⟨c, hc, rfl⟩ := enums_at hd
      refine ⟨_, _, eg_tup (egs_cons (eg_name (show 2 < 4 by decide)) (egs_cons (eg_name (show 3 < 4 by decide)) egs_nil)) rfl, ?_⟩
      have hci := List.mem_of_getElem? hc
      have hil : i < cs.length := (List.getElem?_eq_some_iff.mp hc).1
      refine st_ifD (b := !callB c) (et_notD (et_BD (ev_callND (ea_consD (ev_var rfl) ea_nil) rfl ⟨c, rfl, htame c hci⟩ fun d ⟨y, e, h⟩ => by cases e; exact h))) (fun hb => st_flat (st_retSeq ((ev_tupD (ea_consD ev_str (ea_consD (ev_var rfl) (ea_consD (ev_var rfl) ea_nil))) (sz _ (by show 3 ≤ _; decide))).imp fun d e => fin d ?_))) (fun hb => st_nextSeq (st_next ⟨_, _, rfl, fun j hj => ?_⟩))
      · have hf : (List.range cs.length).find? (badCall cs) = some i := List.find?_range_eq_some.mpr ⟨by unfold badCall; rw [hc]; exact hb, List.mem_range.mpr hil, fun j hj => by rw [hbad j hj]; rfl⟩
        rw [e, spec, hf, Nat.zero_add]
      · by_cases hji : j = i
        · subst hji
          unfold badCall
          rw [hc]
          exact hb
        · exact hbad j (by omega)
    · rintro ds ρ' rfl ⟨s2, s3, h1, h2⟩
      rw [enums_len] at h2
      exact ⟨s2, s3, h1, h2⟩
    rintro _ ⟨s2, s3, rfl, hgood⟩
    have nobad : (List.range cs.length).find? (badCall cs) = none := List.find?_eq_none.mpr fun j hj => by
      rw [hgood j (List.mem_range.mp hj)]
      exact fun z => nomatch z
    rw [nobad] at spec
    have okc : ∀ (i : Nat) c, cs[i]? = some c → ∃ z m, c = .tuple [z, .int m] := fun i c hc => by
      have := hgood i (List.getElem?_eq_some_iff.mp hc).1
      unfold badCall at this
      rw [hc, Bool.not_eq_false'] at this
      exact call_of this
    have hclen : (1 : Int) ≤ cs.length := by
      rw [← hcs, List.length_cons]
      omega
    refine st_for (ei_rng2 (m := 1) (n := (cs.length : Int)) (ea_consD ev_int (ea_consD (ev_cbD (ea_consD (ev_var rfl) ea_nil) rc_lenT) ea_nil)) ⟨by decide, by decide, by omega, by omega⟩) (fun _ i ρ => ∃ s2 s3 : Sk, ρ = [.dat (.tuple cs), .dat (.int p), s2, s3] ∧ ∀ j, 0 < j → j < i + 1 → noRise cs j = false) (fun ρ => ∃ s2 s3 : Sk, ρ = [.dat (.tuple cs), .dat (.int p), s2, s3] ∧ ∀ j, 0 < j → j < cs.length → noRise cs j = false) (fun _ _ => ⟨_, _, rfl, fun j h h2 => by omega⟩) ?_ ?_ ?_
    · rintro _ i d ρ1 rfl hd ⟨s2, s3, rfl, hbad⟩
      obtain ⟨hi, rfl⟩ := ups_at.mp hd
      have hil : i + 1 < cs.length := by omega
      have h1 : cs[i + 1]? = some cs[i + 1] := List.getElem?_eq_getElem hil
      have h0 : cs[i]? = some cs[i] := List.getElem?_eq_getElem (by omega)
      obtain ⟨z1, m1, e1⟩ := okc _ _ h1
      obtain ⟨z0, m0, e0⟩ := okc _ _ h0
      rw [e1] at h1
      rw [e0] at h0
      have hr : noRise cs (i + 1) = decide (m1 ≤ m0) := by
        unfold noRise
        rw [h1, Nat.add_sub_cancel, h0]
        rfl
      refine ⟨_, _, eg_name (show 2 < 4 by decide), ?_⟩
      have c1 : (1 : Int) + (i : Int) = ((i + 1 : Nat) : Int) := by omega
      refine st_ifD (b := decide (m1 ≤ m0)) (et_testD (ev_opD (ev_opD (P := (· = .int m1)) (ev_opD (P := (· = .tuple [z1, .int m1])) (ev_var rfl) (ev_var rfl) (rd_ixT (by rw [c1]; exact atI_of h1))) ev_int (rd_ixT rfl)) (ev_opD (P := (· = .int m0)) (ev_opD (P := (· = .tuple [z0, .int m0])) (ev_var rfl) (ev_opD (P := (· = .int (i : Int))) (ev_var rfl) ev_int ((rd_I0 fun _ => .int _).imp fun d e => by rw [e]; exact congrArg PyData.int (by omega))) (rd_ixT (atI_of h0))) ev_int (rd_ixT rfl)) (rd_I0 fun _ => .bl _)))
        (fun hb => st_flat (st_retSeq ((ev_tupD (ea_consD ev_str (ea_consD (ev_var rfl) (ea_consD (ev_var rfl) ea_nil))) (sz _ (by show 3 ≤ _; decide))).imp fun d e => fin d ?_))) (fun hb => st_nextSeq (st_next ⟨_, _, rfl, fun j hj0 hj => ?_⟩))
      · have hf : (List.range cs.length).find? (fun i => decide (0 < i) && noRise cs i) = some (i + 1) := List.find?_range_eq_some.mpr ⟨by rw [hr, hb]; simp, List.mem_range.mpr hil, fun j hj => by
          by_cases hj0 : 0 < j
          · rw [hbad j hj0 hj]
            simp
          · simp [hj0]⟩
        rw [e, spec, hf, c1]
      · by_cases hji : j = i + 1
        · subst hji
          rw [hr]
          exact hb
        · exact hbad j hj0 (by omega)
    · rintro ds ρ' rfl ⟨s2, s3, h1, h2⟩
      rw [ups_len] at h2
      exact ⟨s2, s3, h1, fun j h0 hj => h2 j h0 (by omega)⟩
    rintro _ ⟨s2, s3, rfl, hris⟩
    refine st_retSeq (ev_non.imp fun d e => fin d ?_)
    have hf : (List.range cs.length).find? (fun i => decide (0 < i) && noRise cs i) = none := List.find?_eq_none.mpr fun j hj => by
      by_cases hj0 : 0 < j
      · rw [hris j hj0 (List.mem_range.mp hj)]
        simp
      · simp [hj0]
    rw [e, spec, hf]
  | _ => cases hb

end
end K07

namespace K07
open PySem PySem.Spec PyProof.Rows L2 Dl
section
variable {P : Program} {w : World} {K : PySem.W.Frag} {mg : Str → Option Value} {base : Heap} (T : Txt K mg)
def isNil : PyData → Bool
  | .tuple [] => true
  | _ => false
def trainE (l least p : Int) : PyData → PyData
  | .tuple [n, ds, cs] => if wi least 9999 n = true then (if (daysB l ds && !isNil ds) = true then callsE p cs else .tuple [.str "days", .int p]) else .tuple [.str "number", .int p]
  | _ => .tuple [.str "train", .int p]
def numOf : PyData → Int
  | .tuple (.int n :: _) => n
  | _ => 0
def leastOf (ts : List PyData) (i : Nat) : Int := if 0 < i then (match ts[i - 1]? with | some t => numOf t | none => 0) + 1 else 1
def tameT (t : PyData) : Prop := ∀ ds : List PyData, t = .tuple ds → ∀ x ∈ ds, few x ∧ ∀ cs : List PyData, x = .tuple cs → ∀ c ∈ cs, tameC c
def teP (ds : List PyData) : Prop := ∃ (ts : List PyData) (i : Nat) (l : Int) (t : PyData), ds = [.tuple ts, .int (i : Int), .int l] ∧ ts[i]? = some t ∧ tameT t ∧ (0 < i → ∃ n r, ts[i - 1]? = some (.tuple (.int n :: r)))
def teQ (ds : List PyData) (d : PyData) : Prop := ∀ (ts : List PyData) (i : Nat) (l : Int) (t : PyData), ds = [.tuple ts, .int (i : Int), .int l] → ts[i]? = some t → d = trainE l (leastOf ts i) i t
theorem ok_train_error : FnOk P w K mg base CX0 5 T.f_train_error T.fd_train_error ["trains", "place", "length"] (spN K 3 teP teQ) := by
  refine ok_N T.F_train_error sc_train_error fun cdv A outer s H E hr ds hl hp => ⟨_, (pss_cons (ps_set (i := 3) sc_train_error.nd rfl (Or.inl rfl) (pe_ix ix_tup (pv 0) (pv 1) (fun _ _ => rfl))) (pss_cons (ps_if (pt_not (pt_val (pe_call (ok_is_tuple_of T) (hr.mono (by decide)) rfl T.g_is_tuple_of T.F_is_tuple_of.kp T.b_is_tuple_of .nil pass0 (pa_cons (pv 3) (pa_cons pe_int pa_nil))))) (pss_cons (ps_ret (pe_tup (pa_cons pe_str (pa_cons (pv 1) pa_nil)))) pss_nil) pss_nil) (pss_cons (ps_asg (pv 3) (pg_tup rfl (pgs_cons (pg_name (i := 5) sc_train_error.nd rfl (Or.inl rfl)) (pgs_cons (pg_name (i := 6) sc_train_error.nd rfl (Or.inl rfl)) (pgs_cons (pg_name (i := 7) sc_train_error.nd rfl (Or.inl rfl)) pgs_nil))))) (pss_cons (ps_set (i := 4) sc_train_error.nd rfl (Or.inl rfl) (pe_ifExp (pt_cmpR op_gt (pv 1) pe_int (nomark _)) (pe_op op_add (pe_ix ix_tup (pe_ix ix_tup (pv 0) (pe_op op_sub (pv 1) pe_int) (fun _ _ => rfl)) pe_int (fun _ _ => rfl)) pe_int) pe_int)) (pss_cons (ps_if (pt_not (pt_val (pe_call (ok_is_within T) (hr.mono (by decide)) rfl T.g_is_within T.F_is_within.kp T.b_is_within .nil pass0 (pa_cons (pv 5) (pa_cons (pv 4) (pa_cons (pe_glob (v := .int 9999) rfl T.g_MAX_NUMBER ⟨_, rfl⟩) pa_nil)))))) (pss_cons (ps_ret (pe_tup (pa_cons pe_str (pa_cons (pv 1) pa_nil)))) pss_nil) pss_nil) (pss_cons (ps_if (PW.pt (pw_or (pt_not (pt_val (pe_call (ok_are_days T) (hr.mono (by decide)) rfl T.g_are_days T.F_are_days.kp T.b_are_days .nil pass0 (pa_cons (pv 6) (pa_cons (pv 2) pa_nil))))) (pw_or1 (pt_cmpR op_eq (pe_callB call_len_seq rfl T.n_len (by decide +kernel) (pa_cons (pv 6) pa_nil)) pe_int (nomark _))))) (pss_cons (ps_ret (pe_tup (pa_cons pe_str (pa_cons (pv 1) pa_nil)))) pss_nil) pss_nil) (pss_cons (ps_ret (pe_call (ok_calls_error T) (hr.mono (by decide)) rfl T.g_calls_error T.F_calls_error.kp T.b_calls_error .nil pass0 (pa_cons (pv 7) (pa_cons (pv 1) pa_nil)))) pss_nil))))))), ?_⟩
  obtain ⟨ts, i, l, t, rfl, ht, htame, hprev⟩ := hp
  have fin : ∀ d, d = trainE l (leastOf ts i) i t → teQ [.tuple ts, .int (i : Int), .int l] d := fun d e ts2 i2 l2 t2 z h2 => by
    have e3 : ts = ts2 ∧ (i : Int) = i2 ∧ l = l2 := by simpa using z
    obtain ⟨rfl, e4, rfl⟩ := e3
    obtain rfl : i = i2 := by omega
    rw [ht] at h2
    cases h2
    exact e
  show StG K Fx.non _ _ [.dat (.tuple ts), .dat (.int (i : Int)), .dat (.int l), .any, .any, .any, .any, .any] _
  have told : ∀ (z : Str) (ρ : List Sk), ρ[1]? = some (.dat (.int (i : Int))) → EvD K Fx.non (tTup (tCons (tC (.str z)) (tCons (tVar 1) tNil))) ρ (.tuple [.str z, .int (i : Int)]) := fun z ρ h => ev_tupD (ea_consD ev_str (ea_consD (ev_var h) ea_nil)) (sz _ (by show 2 ≤ _; decide))
  refine st_setD (d := t) (show 3 < 8 by decide) (ev_opD (ev_var rfl) (ev_var rfl) (rd_ixT (atI_of ht))) ?_
  refine st_ifD (b := !tupN (3 : Nat) t) (et_notD (et_BD (ev_tupleOf (ev_var rfl) ev_int))) (fun hb => st_flat (st_retSeq ((told "train" _ rfl).imp fun d e => fin d ?_))) (fun hb => st_nextSeq ?_)
  · rw [e]
    rw [Bool.not_eq_true'] at hb
    unfold trainE
    split
    · cases hb
    · rfl
  rw [Bool.not_eq_false'] at hb
  obtain ⟨tds, rfl, hl3⟩ := tupN_of hb
  match tds, hl3 with
  | [n, dd, cs], _ =>
  refine st_asgG (ev_var rfl) fun d0 e0 => ?_
  subst e0
  refine ⟨_, _, eg_tup (egs_cons (eg_name (show 5 < 8 by decide)) (egs_cons (eg_name (show 6 < 8 by decide)) (egs_cons (eg_name (show 7 < 8 by decide)) egs_nil))) rfl, ?_⟩
  refine st_setD (d := .int (leastOf ts i)) (show 4 < 8 by decide) (ev_ifD (b := decide ((0 : Int) < i)) (et_testD (ev_opD (ev_var rfl) ev_int (rd_I0 fun _ => .bl _))) (fun hb => ?_) (fun hb => ?_)) ?_
  · have h0 : 0 < i := by
      have := of_decide_eq_true hb
      omega
    obtain ⟨pn, pr, hp⟩ := hprev h0
    have e1 : ((i : Int) - 1) = ((i - 1 : Nat) : Int) := by omega
    refine (ev_opD (P := (· = .int (pn + 1))) (ev_opD (P := (· = .int pn)) (ev_opD (P := (· = .tuple (.int pn :: pr))) (ev_var rfl) (ev_opD (P := (· = .int ((i - 1 : Nat) : Int))) (ev_var rfl) ev_int ((rd_I0 fun _ => .int _).imp fun d e => by rw [e, e1])) (rd_ixT (atI_of hp))) ev_int (rd_ixT (show atI (PyData.int pn :: pr) ((0 : Nat) : Int) = some (PyData.int pn) from atI_of rfl))) ev_int (rd_I0 fun _ => .int _)).imp fun d e => ?_
    rw [e]
    unfold leastOf
    rw [if_pos h0, hp]
    rfl
  · refine ev_int.imp fun d e => ?_
    have := of_decide_eq_false hb
    rw [e]
    unfold leastOf
    rw [if_neg (by omega)]
  refine st_ifD (b := !wi (leastOf ts i) 9999 n) (et_notD (et_BD (ev_within (ev_var rfl) (ev_var rfl) ev_int))) (fun hb => st_flat (st_retSeq ((told "number" _ rfl).imp fun d e => fin d ?_))) (fun hb => st_nextSeq ?_)
  · rw [Bool.not_eq_true'] at hb
    rw [e]
    unfold trainE
    dsimp only
    rw [if_neg (by rw [hb]; decide)]
  rw [Bool.not_eq_false'] at hb
  have spec : trainE l (leastOf ts i) i (.tuple [n, dd, cs]) = if (daysB l dd && !isNil dd) = true then callsE i cs else .tuple [.str "days", .int (i : Int)] := if_pos hb
  rw [spec] at fin
  have hfew := (htame _ rfl dd (by simp)).1
  refine st_ifD (b := !daysB l dd || isNil dd) (et_orD (et_notD (et_BD (ev_callND (ea_consD (ev_var rfl) (ea_consD (ev_var rfl) ea_nil)) rfl ⟨dd, l, rfl, hfew⟩ fun d q => q dd l rfl))) fun h1 => ?_) (fun h1 => st_flat (st_retSeq ((told "days" _ rfl).imp fun d e => fin d ?_))) (fun h1 => st_nextSeq ?_)
  · cases dd with
    | tuple xs =>
      refine (et_testD (ev_opD (ev_cbD (ea_consD (ev_var rfl) ea_nil) rc_lenT) ev_int rd_eqI)).imp fun b e => ?_
      rw [e]
      cases xs with
      | nil => rfl
      | cons x xs =>
        show decide ((((x :: xs).length : Nat) : Int) = 0) = false
        rw [List.length_cons]
        exact decide_eq_false (by omega)
    | _ => cases h1
  · rw [e, if_neg]
    cases z1 : daysB l dd <;> cases z2 : isNil dd <;> simp_all
  · refine st_retSeq ((ev_callND (ea_consD (ev_var rfl) (ea_consD (ev_var rfl) ea_nil)) rfl ⟨cs, i, rfl, fun xs hx => ?_⟩ fun d q => q cs i rfl).imp fun d e => fin d ?_)
    · rw [e, if_pos]
      cases z1 : daysB l dd <;> cases z2 : isNil dd <;> simp_all
    · have h2 := htame _ rfl cs (by simp)
      exact ⟨h2.1 xs hx, h2.2 xs hx⟩

end
end K07

namespace K07
open PySem PySem.Spec PyProof.Rows L2 Dl
section
variable {P : Program} {w : World} {K : PySem.W.Frag} {mg : Str → Option Value} {base : Heap} (T : Txt K mg)
def callsOf : PyData → List PyData
  | .tuple [_, _, .tuple cs] => cs
  | _ => []
def nmOf : PyData → Str
  | .tuple (.str z :: _) => z
  | _ => Str.empty
def namesOf (ts : List PyData) : List Str := ts.flatMap fun t => (callsOf t).map nmOf
def countE (ts : List PyData) : PyData := if 16 < (once (namesOf ts)).length then .str "stations" else if 200 < (namesOf ts).length then .str "many" else .none
/-- a train whose calls are calls -/
def wholeT (t : PyData) : Prop := ∃ n d cs, t = .tuple [n, d, .tuple cs] ∧ ∀ c ∈ cs, ∃ z m, c = .tuple [.str z, m]
def coP (ds : List PyData) : Prop := ∃ ts : List PyData, ds = [.tuple ts] ∧ (∀ t ∈ ts, wholeT t) ∧ (namesOf ts).length ≤ 4000
theorem ok_count_error : FnOk P w K mg base CX0 1 T.f_count_error T.fd_count_error ["trains"] (spN K 1 coP fun ds d => ∃ ts : List PyData, ds = [.tuple ts] ∧ d = countE ts) := by
  refine ok_N T.F_count_error sc_count_error fun cdv A outer s H E hr ds hl hp => ⟨_, (pss_cons (ps_setLc2 (i := 1) (own := [("train", 2), ("call", 3)]) (vs1 := [3]) rfl sc_count_error.nd rfl rfl (sw_true rfl rfl rfl (by decide +kernel)) (pi_tup (pv 0)) (blkOk_by (N := N_count_error) (sc := defScope s_count_error) (by decide +kernel)) (by decide) (fun _ _ _ _ _ => pg_name (i := 2) sc_count_error.nd rfl (Or.inl rfl)) (fun _ _ _ _ _ => pts_nil) (fun _ _ _ _ _ => (pi_tup (pe_ix (ix_tup : IxR _ (rIxT K)) (pv 2) pe_int (fun _ _ => rfl)) : PI _ _ _ (iTup K _))) (fun _ _ _ _ _ => pg_name (i := 3) sc_count_error.nd rfl (Or.inl rfl)) (fun _ _ _ _ _ => pts_nil) (fun _ _ _ _ _ => (pe_ix (ix_tup : IxR _ (rIxT K)) (pv 3) pe_int (fun _ _ => rfl)))) (pss_cons (ps_if (pt_cmpR op_gt (pe_callB call_lenK rfl T.n_len (by decide +kernel) (pa_cons (pe_callTy (call_setS rfl) rfl T.n_set (by decide +kernel) (pa_cons (pv 1) pa_nil)) pa_nil)) (pe_glob (v := .int 16) rfl T.g_MAX_STATIONS ⟨_, rfl⟩) (nomark _)) (pss_cons (ps_ret pe_str) pss_nil) pss_nil) (pss_cons (ps_if (pt_cmpR op_gt (pe_callB call_len_seq rfl T.n_len (by decide +kernel) (pa_cons (pv 1) pa_nil)) (pe_glob (v := .int 200) rfl T.g_MAX_CALLS ⟨_, rfl⟩) (nomark _)) (pss_cons (ps_ret pe_str) pss_nil) pss_nil) (pss_cons (ps_ret pe_non) pss_nil)))), ?_⟩
  obtain ⟨ts, rfl, hts, hz⟩ := hp
  show StG K Fx.non _ _ [.dat (.tuple ts), .any, .any, .any] _
  have en : (ts.flatMap fun t => (callsOf t).map fun c => PyData.str (nmOf c)) = (namesOf ts).map .str := by
    unfold namesOf
    rw [List.map_flatMap]
    refine congrArg (fun g => List.flatMap g ts) (funext fun t => ?_)
    rw [List.map_map]
    rfl
  refine st_setD (d := .list ((namesOf ts).map .str)) (show 1 < 4 by decide) (EvF.evD (EvF.imp (evf_map2 (ds := ts) (vs := [2, 3]) (vs1 := [3]) (inn := callsOf) (f := fun _ c => .str (nmOf c)) (fun v hv => by simp at hv; rcases hv with rfl | rfl; exact (show 2 < 4 by decide); exact (show 3 < 4 by decide)) (fun v hv => by simp at hv; rw [hv]; exact (show 3 < 4 by decide)) (ei_tup (ev_var rfl)) (by rw [en, List.length_map]; omega) ?_) fun es e => e.trans en)) ?_
  · intro t ht
    obtain ⟨n, d, cs, rfl, hcs⟩ := hts t ht
    refine ⟨[.dat (.tuple ts), .any, .dat (.tuple [n, d, .tuple cs]), .any], [2], fun j hj => by simp at hj; simp [hj], rfl, rfl, eg_name (show 2 < 4 by decide), ei_tup (ev_opD (d1 := .tuple [n, d, .tuple cs]) (ev_var rfl) ev_int (rd_ixT (d := .tuple cs) rfl)), fun c hc => ?_⟩
    obtain ⟨z, m, rfl⟩ := hcs c hc
    exact ⟨[.dat (.tuple ts), .any, .dat (.tuple [n, d, .tuple cs]), .dat (.tuple [.str z, m])], [3], fun j hj => hj, eg_name (show 3 < 4 by decide), ev_opD (d1 := .tuple [.str z, m]) (ev_var rfl) ev_int (rd_ixT (d := .str z) rfl)⟩
  have told : ∀ d : PyData, d = countE ts → ∃ us : List PyData, [PyData.tuple ts] = [.tuple us] ∧ d = countE us := fun d e => ⟨ts, rfl, e⟩
  refine st_ifD (b := decide ((16 : Int) < ((once (namesOf ts)).length : Int))) (et_testD (ev_opD (ev_lenSetS (EvN.evBD (ev_var rfl)) hz) ev_int ((rd_I0 fun _ => .bl _).imp fun d e => by rw [e]))) (fun hb => st_flat (st_retSeq (ev_str.imp fun d e => told _ ?_))) (fun hb => st_nextSeq ?_)
  · have := of_decide_eq_true hb
    rw [e]
    unfold countE
    rw [if_pos (by omega)]
  have h16 := of_decide_eq_false hb
  refine st_ifD (b := decide ((200 : Int) < ((namesOf ts).length : Int))) (et_testD (ev_opD (ev_cbD (ea_consD (ev_var rfl) ea_nil) rc_lenL) ev_int ((rd_I0 fun _ => .bl _).imp fun d e => by rw [e, List.length_map]))) (fun hb => st_flat (st_retSeq (ev_str.imp fun d e => told _ ?_))) (fun hb => st_nextSeq (st_retSeq (ev_non.imp fun d e => told _ ?_)))
  · have := of_decide_eq_true hb
    rw [e]
    unfold countE
    rw [if_neg (by omega), if_pos (by omega)]
  · have := of_decide_eq_false hb
    rw [e]
    unfold countE
    rw [if_neg (by omega), if_neg (by omega)]

end
end K07

namespace K07
open PySem PySem.Spec PyProof.Rows L2 Dl
section
variable {P : Program} {w : World} {K : PySem.W.Frag} {mg : Str → Option Value} {base : Heap} (T : Txt K mg)
def isNone : PyData → Bool
  | .none => true
  | _ => false
theorem rd_notN {W : Fx} {d : PyData} : RD K W (fun x y H Q => y = V.non ∧ Q (V.bl (!decide (x = V.non))) H) d .none (· = .bool (!isNone d)) := fun D H x y o hx hy Q q => by
  cases hy
  refine ⟨rfl, q _ D H _ (.refl o) (.bl _) ?_⟩
  cases hx <;> simp [isNone]
def errAt (l : Int) (ts : List PyData) (i : Nat) : PyData := match ts[i]? with
  | some t => trainE l (leastOf ts i) i t
  | none => .none
def firstE (l : Int) (ts : List PyData) : Option PyData := ((List.range ts.length).find? fun i => !isNone (errAt l ts i)).map (errAt l ts)
def planE : PyData → PyData
  | .tuple [c, t] => if calB c = true then (match c, t with
    | .tuple [_, l, _], .tuple ts => if 24 < ts.length then .str "trains" else (firstE (toI l) ts).getD (countE ts)
    | _, _ => .str "trains") else .str "calendar"
  | _ => .str "form"
def tameV (v : PyData) : Prop := ∀ c t, v = .tuple [c, t] → fewC c ∧ ∀ ts, t = .tuple ts → (∀ x ∈ ts, tameT x) ∧ (namesOf ts).length ≤ 4000 ∧ ts.length ≤ 100000
theorem find_none_all {p : Nat → Bool} : ∀ {n : Nat}, (List.range n).find? p = none → ∀ i, i < n → p i = false := fun {n} h i hi => by
  have := List.find?_eq_none.mp h i (List.mem_range.mpr hi)
  cases z : p i
  · rfl
  · exact absurd z this
theorem whole_of {l least p : Int} {t : PyData} (h : isNone (trainE l least p t) = true) : wholeT t ∧ ∃ n r, t = .tuple (.int n :: r) := by
  unfold trainE at h
  split at h
  · rename_i n ds cs
    split at h
    · rename_i hw
      split at h
      · have hn := (wi_int hw).1
        refine ⟨?_, toI n, [ds, cs], by rw [← hn]⟩
        cases cs with
        | tuple cs =>
          refine ⟨n, ds, cs, rfl, fun c hc => ?_⟩
          have hall : ∀ i, i < cs.length → badCall cs i = false := by
            cases cs with
            | nil => cases h
            | cons a b =>
              cases z : (List.range (a :: b).length).find? (badCall (a :: b)) with
              | some i =>
                have h : isNone (match (List.range (a :: b).length).find? (badCall (a :: b)) with
                  | some i => PyData.tuple [.str "call", .int p, .int (i : Int)]
                  | none => match (List.range (a :: b).length).find? (fun i => decide (0 < i) && noRise (a :: b) i) with
                    | some i => .tuple [.str "rise", .int p, .int (i : Int)]
                    | none => .none) = true := h
                rw [z] at h
                cases h
              | none => exact fun i hi => find_none_all z i hi
          obtain ⟨i, hi⟩ := List.getElem?_of_mem hc
          have hb := hall i (List.getElem?_eq_some_iff.mp hi).1
          unfold badCall at hb
          rw [hi, Bool.not_eq_false'] at hb
          unfold callB at hb
          split at hb
          · rename_i z m
            rw [Bool.and_eq_true] at hb
            cases z with
            | str z => exact ⟨z, m, rfl⟩
            | _ => cases hb.1
          · cases hb
        | _ => cases h
      · cases h
    · cases h
  · cases h
theorem cal_of {c : PyData} (hb : calB c = true) : ∃ f l h, c = .tuple [f, l, h] ∧ l = .int (toI l) := by
  unfold calB at hb
  split at hb
  · rename_i f l h
    rw [Bool.and_eq_true, Bool.and_eq_true] at hb
    exact ⟨f, l, h, rfl, (wi_int hb.2.1).1⟩
  · cases hb
theorem ok_plan_error : FnOk P w K mg base CX0 6 T.f_plan_error T.fd_plan_error ["value"] (spN K 1 (fun ds => ∃ v, ds = [v] ∧ tameV v) (fun ds d => ∃ v, ds = [v] ∧ d = planE v)) := by
  refine ok_N T.F_plan_error sc_plan_error fun cdv A outer s H E hr ds hl hp => ⟨_, (pss_cons (ps_if (pt_not (pt_val (pe_call (ok_is_tuple_of T) (hr.mono (by decide)) rfl T.g_is_tuple_of T.F_is_tuple_of.kp T.b_is_tuple_of .nil pass0 (pa_cons (pv 0) (pa_cons pe_int pa_nil))))) (pss_cons (ps_ret pe_str) pss_nil) pss_nil) (pss_cons (ps_asg (pv 0) (pg_tup rfl (pgs_cons (pg_name (i := 2) sc_plan_error.nd rfl (Or.inl rfl)) (pgs_cons (pg_name (i := 3) sc_plan_error.nd rfl (Or.inl rfl)) pgs_nil)))) (pss_cons (ps_if (pt_not (pt_val (pe_call (ok_is_calendar T) (hr.mono (by decide)) rfl T.g_is_calendar T.F_is_calendar.kp T.b_is_calendar .nil pass0 (pa_cons (pv 2) pa_nil)))) (pss_cons (ps_ret pe_str) pss_nil) pss_nil) (pss_cons (ps_if (PW.pt (pw_or (pt_not (pt_val (pe_callB call_isi rfl T.n_isinstance (by decide +kernel) (pa_cons (pv 3) (pa_cons (pe_bltn (v := .ty "tuple") rfl T.n_tuple (by decide +kernel) rfl) pa_nil))))) (pw_or1 (pt_cmpR op_gt (pe_callB call_len_seq rfl T.n_len (by decide +kernel) (pa_cons (pv 3) pa_nil)) (pe_glob (v := .int 24) rfl T.g_MAX_TRAINS ⟨_, rfl⟩) (nomark _))))) (pss_cons (ps_ret pe_str) pss_nil) pss_nil) (pss_cons (ps_for PassesOwn.never rfl (pi_range1 rfl T.n_range (pa_cons (pe_callB call_len_seq rfl T.n_len (by decide +kernel) (pa_cons (pv 3) pa_nil)) pa_nil)) (pg_name (i := 1) sc_plan_error.nd rfl (Or.inl rfl)) (pss_cons (ps_set (i := 4) sc_plan_error.nd rfl (Or.inl rfl) (pe_call (ok_train_error T) (hr.mono (by decide)) rfl T.g_train_error T.F_train_error.kp T.b_train_error .nil pass0 (pa_cons (pv 3) (pa_cons (pv 1) (pa_cons (pe_ix ix_tup (pv 2) pe_int (fun _ _ => rfl)) pa_nil))))) (pss_cons (ps_if (pt_cmpR op_notN (pv 4) pe_non (nomark _)) (pss_cons (ps_ret (pv 4)) pss_nil) pss_nil) pss_nil))) (pss_cons (ps_ret (pe_call (ok_count_error T) (hr.mono (by decide)) rfl T.g_count_error T.F_count_error.kp T.b_count_error .nil pass0 (pa_cons (pv 3) pa_nil))) pss_nil)))))), ?_⟩
  obtain ⟨v, rfl, hv⟩ := hp
  show StG K Fx.non _ _ [.dat v, .any, .any, .any, .any] _
  have told : ∀ d : PyData, d = planE v → ∃ u, [v] = [u] ∧ d = planE u := fun d e => ⟨v, rfl, e⟩
  refine st_ifD (b := !tupN (2 : Nat) v) (et_notD (et_BD (ev_tupleOf (ev_var rfl) ev_int))) (fun hb => st_flat (st_retSeq (ev_str.imp fun d e => told d ?_))) (fun hb => st_nextSeq ?_)
  · rw [e]
    rw [Bool.not_eq_true'] at hb
    unfold planE
    split
    · cases hb
    · rfl
  rw [Bool.not_eq_false'] at hb
  obtain ⟨ds, rfl, hl2⟩ := tupN_of hb
  match ds, hl2 with
  | [c, t], _ =>
  obtain ⟨hfc, hts⟩ := hv c t rfl
  refine st_asgG (ev_var rfl) fun d0 e0 => ?_
  subst e0
  refine ⟨_, _, eg_tup (egs_cons (eg_name (show 2 < 5 by decide)) (egs_cons (eg_name (show 3 < 5 by decide)) egs_nil)) rfl, ?_⟩
  refine st_ifD (b := !calB c) (et_notD (et_BD (ev_callND (ea_consD (ev_var rfl) ea_nil) rfl ⟨c, rfl, hfc⟩ fun d ⟨y, e, h⟩ => by cases e; exact h))) (fun hb => st_flat (st_retSeq (ev_str.imp fun d e => told d ?_))) (fun hb => st_nextSeq ?_)
  · rw [Bool.not_eq_true'] at hb
    rw [e]
    unfold planE
    dsimp only
    rw [if_neg (by rw [hb]; decide)]
  rw [Bool.not_eq_false'] at hb
  obtain ⟨f, l, h, rfl, hlI⟩ : ∃ f l h, c = .tuple [f, l, h] ∧ l = .int (toI l) := cal_of hb
  have spec : planE (.tuple [.tuple [f, l, h], t]) = (match t with
    | .tuple ts => if 24 < ts.length then .str "trains" else (firstE (toI l) ts).getD (countE ts)
    | _ => .str "trains") := by
    unfold planE
    dsimp only
    rw [if_pos hb]
    cases t <;> rfl
  rw [spec] at told
  refine st_ifD (b := !isTup t || (match t with | .tuple ts => decide ((24 : Int) < (ts.length : Int)) | _ => false)) (et_orD (et_notD (et_BD (ev_isi (ev_var rfl) (kit_tup t)))) fun h1 => ?_) (fun h1 => st_flat (st_retSeq (ev_str.imp fun d e => told d ?_))) (fun h1 => st_nextSeq ?_)
  · cases t with
    | tuple ts => exact et_testD (ev_opD (ev_cbD (ea_consD (ev_var rfl) ea_nil) rc_lenT) ev_int (rd_I0 fun _ => .bl _))
    | _ => cases h1
  · rw [e]
    cases t with
    | tuple ts =>
      have := of_decide_eq_true (show decide ((24 : Int) < (ts.length : Int)) = true from h1)
      dsimp only
      rw [if_pos (by omega)]
    | _ => rfl
  cases t with
  | tuple ts =>
    have hn24 := of_decide_eq_false (show decide ((24 : Int) < (ts.length : Int)) = false from h1)
    obtain ⟨htame, hnames, _⟩ := hts ts rfl
    have told2 : ∀ d : PyData, d = (firstE (toI l) ts).getD (countE ts) → ∃ u, [PyData.tuple [.tuple [f, l, h], .tuple ts]] = [u] ∧ d = planE u := fun d e => told d (by rw [e]; dsimp only; rw [if_neg (by omega)])
    refine st_for (ei_rng1 (n := (ts.length : Int)) (ea_consD (ev_cbD (ea_consD (ev_var rfl) ea_nil) rc_lenT) ea_nil) (by omega) (by omega)) (fun _ i ρ => ∃ s1 s4 : Sk, ρ = [.dat (.tuple [.tuple [f, l, h], .tuple ts]), s1, .dat (.tuple [f, l, h]), .dat (.tuple ts), s4] ∧ ∀ j, j < i → isNone (errAt (toI l) ts j) = true) (fun ρ => ∃ s1 s4 : Sk, ρ = [.dat (.tuple [.tuple [f, l, h], .tuple ts]), s1, .dat (.tuple [f, l, h]), .dat (.tuple ts), s4] ∧ ∀ j, j < ts.length → isNone (errAt (toI l) ts j) = true) (fun _ _ => ⟨_, _, rfl, fun j h => nomatch h⟩) ?_ ?_ ?_
    · rintro _ i d ρ1 rfl hd ⟨s1, s4, rfl, hno⟩
      obtain ⟨hi, rfl⟩ := ups_at.mp hd
      rw [Int.toNat_natCast] at hi
      rw [Int.zero_add]
      have ht : ts[i]? = some ts[i] := List.getElem?_eq_getElem hi
      generalize ts[i] = t at ht
      have he : errAt (toI l) ts i = trainE (toI l) (leastOf ts i) i t := by
        unfold errAt
        rw [ht]
      refine ⟨_, _, eg_name (show 1 < 5 by decide), ?_⟩
      refine st_setD (d := errAt (toI l) ts i) (show 4 < 5 by decide) (ev_callND (ea_consD (ev_var rfl) (ea_consD (ev_var rfl) (ea_consD ((ev_opD (P := (· = l)) (d1 := .tuple [f, l, h]) (ev_var rfl) ev_int (rd_ixT rfl)).imp fun d e => e.trans hlI) ea_nil))) rfl ⟨ts, i, toI l, t, rfl, ht, htame t (List.mem_of_getElem? ht), fun h0 => ?_⟩ fun d q => (q ts i (toI l) t rfl ht).trans he.symm) ?_
      · have hp := hno (i - 1) (by omega)
        have hp1 : ts[i - 1]? = some ts[i - 1] := List.getElem?_eq_getElem (by omega)
        unfold errAt at hp
        rw [hp1] at hp
        obtain ⟨n, r, e⟩ := (whole_of hp).2
        exact ⟨n, r, by rw [hp1, e]⟩
      refine st_ifD (b := !isNone (errAt (toI l) ts i)) (et_testD (ev_opD (ev_var rfl) ev_non rd_notN)) (fun hb => st_flat (st_retSeq ((ev_var rfl).imp fun d e => told2 d ?_))) (fun hb => st_nextSeq (st_next ⟨_, _, rfl, fun j hj => ?_⟩))
      · have hf : (List.range ts.length).find? (fun i => !isNone (errAt (toI l) ts i)) = some i := List.find?_range_eq_some.mpr ⟨hb, List.mem_range.mpr hi, fun j hj => by rw [hno j hj]; rfl⟩
        rw [e]
        unfold firstE
        rw [hf]
        rfl
      · by_cases hji : j = i
        · subst hji
          rw [Bool.not_eq_false'] at hb
          exact hb
        · exact hno j (by omega)
    · rintro ds ρ' rfl ⟨s1, s4, h1, h2⟩
      rw [ups_len, Int.toNat_natCast] at h2
      exact ⟨s1, s4, h1, h2⟩
    rintro _ ⟨s1, s4, rfl, hno⟩
    refine st_retSeq ((ev_callND (P := (· = countE ts)) (ea_consD (ev_var rfl) ea_nil) rfl ⟨ts, rfl, fun x hx => ?_, hnames⟩ fun d ⟨u, e, h⟩ => by cases e; exact h).imp fun d e => told2 d ?_)
    · have hf : (List.range ts.length).find? (fun i => !isNone (errAt (toI l) ts i)) = none := List.find?_eq_none.mpr fun j hj => by
        rw [hno j (List.mem_range.mp hj)]
        exact fun z => nomatch z
      rw [e]
      unfold firstE
      rw [hf]
      rfl
    · obtain ⟨i, hi⟩ := List.getElem?_of_mem hx
      have hp := hno i (List.getElem?_eq_some_iff.mp hi).1
      unfold errAt at hp
      rw [hi] at hp
      exact (whole_of hp).1
  | _ => cases h1

end
end K07

namespace K07
open PySem PySem.Spec PyProof.Rows L2 Dl
section
variable {P : Program} {w : World} {K : PySem.W.Frag} {mg : Str → Option Value} {base : Heap} (T : Txt K mg)
def drawP (ds : List PyData) : Prop := ∃ k : Int, ds = [.int k] ∧ 0 < k ∧ k < 1000000
def drawQ (ds : List PyData) (d : PyData) : Prop := ∃ k : Int, ds = [.int k] ∧ isI 0 k d
abbrev sp_draw (K : PySem.W.Frag) : Sp := spW K 1 drawP drawQ
theorem ok__law_draw : FnOk P w K mg base CX0 1 T.f__law_draw T.fd__law_draw ["well", "many"] (sp_draw K) := by
  refine ok_W T.F__law_draw sc__law_draw fun a b cdv A outer s H E hr ds hl hp => ⟨_, (pss_cons (ps_if (pt_cmpR (op_neQ hr.units) (pe_ix ix_list (pv 0) pe_int (fun _ _ => rfl)) (pe_lst pa_nil) (nomark _)) (pss_cons (ps_set (i := 3) sc__law_draw.nd rfl (Or.inl rfl) (pe_ix ix_list (pe_ix ix_list (pv 0) pe_int (fun _ _ => rfl)) pe_int (fun _ _ => rfl))) (pss_cons (ps_asg (pe_op op_fdivN (pv 3) (pv 1)) (pg_sub (pe_ix ix_list (pv 0) pe_int (fun _ _ => rfl)) pe_int set_list)) (pss_cons (ps_if (pt_cmpR op_lt (pv 3) (pv 1) (nomark _)) (pss_cons (ps_expr (pe_bm PySem.F.plainAttrs_list PySem.F.slot_list_pop PySem.F.type_list_pop mt_popAt (pe_ix ix_list (pv 0) pe_int (fun _ _ => rfl)) (pa_cons pe_int pa_nil))) pss_nil) pss_nil) (pss_cons (ps_ret (pe_op op_modN (pe_callTy call_int1 rfl T.n_int (by decide +kernel) (pa_cons (pv 3) pa_nil)) (pv 1))) pss_nil)))) pss_nil) (pss_cons (ps_asg (pe_op op_add (pe_ix ix_list (pv 0) pe_int (fun _ _ => rfl)) pe_int) (pg_sub (pv 0) pe_int set_list)) (pss_cons (ps_set (i := 2) sc__law_draw.nd rfl (Or.inl rfl) (pe_op op_modN (pe_callTy call_int1 rfl T.n_int (by decide +kernel) (pa_cons (pe_op op_add (pe_ix ix_list (pv 0) pe_int (fun _ _ => rfl)) (pe_op op_mul pe_int (pe_ix ix_list (pv 0) pe_int (fun _ _ => rfl)))) pa_nil)) pe_int)) (pss_cons (ps_set (i := 2) sc__law_draw.nd rfl (Or.inl rfl) (pe_op op_modN (pe_callTy call_int1 rfl T.n_int (by decide +kernel) (pa_cons (pe_op op_add (pe_op op_add (pe_op op_mul (pv 2) (pv 2)) (pe_op op_mul pe_int (pe_ix ix_list (pv 0) pe_int (fun _ _ => rfl)))) pe_int) pa_nil)) pe_int)) (pss_cons (ps_set (i := 2) sc__law_draw.nd rfl (Or.inl rfl) (pe_op op_modN (pe_callTy call_int1 rfl T.n_int (by decide +kernel) (pa_cons (pe_op op_add (pe_op op_mul (pv 2) (pv 2)) (pe_ix ix_list (pv 0) pe_int (fun _ _ => rfl))) pa_nil)) pe_int)) (pss_cons (ps_ret (pe_op op_modN (pe_callTy call_int1 rfl T.n_int (by decide +kernel) (pa_cons (pe_op op_fdivN (pv 2) pe_int) pa_nil)) (pv 1))) pss_nil)))))), ?_⟩
  obtain ⟨k, rfl, hk0, hk1⟩ := hp
  show StG K (Wl a b) _ _ [.rt, .dat (.int k), .any, .any] _
  intro D0 H0 D1 H1 σ Dn e kn kb kc kr kx
  obtain ⟨o, h1, h2⟩ := e.slot 0 _ rfl
  have h3 : o = some (.ref a) := h2
  subst h3
  obtain ⟨o, g1, v, g2, g3⟩ := e.slot 1 _ rfl
  subst g2
  cases g3
  obtain ⟨hab, cs, m, n, ha, hb⟩ := e.ok.inv
  refine ⟨.ref a, h1, a, _, 0, .ref b, rfl, rfl, Or.inl (Or.inl ha), rfl, Nat.zero_le _, fun p hp => ?_⟩
  have s1 : Step (Wl a b) D1 H1 D1 (upd H1 p (.lst [])) := .keptH e.ok (same_new hp)
  have pa : a ≠ p := ne_of_none ha hp
  have pb : b ≠ p := ne_of_none hb hp
  have ha2 : (upd H1 p (.lst [])) a = some (.lst [.ref b, .int m, .int n]) := by rw [upd_ne pa]; exact ha
  have hb2 : (upd H1 p (.lst [])) b = some (.lst (cs.map V.int)) := by rw [upd_ne pb]; exact hb
  refine ⟨.list (cs.map .int), .list [], .lst (Or.inl (Or.inl hb2)) (DqA.ints cs), .lst (Or.inl (Or.inl upd_same)) .nil, sh_ints cs, sh_nil, _, rfl, ?_⟩
  have e1 := e.step s1
  generalize upd H1 p (.lst []) = H2 at ha2 hb2 s1 e1 ⊢
  rw [if_pos rfl, eqv_nil]
  cases cs with
  | nil =>
    refine iteF ?_
    show tSeq _ _ _ σ H2
    refine (?_ : StG K (Wl a b) (fun _ => False) _ [.rt, .dat (.int k), .any, .any] { nx := fun _ => drawQ [.int k] .none, rt := drawQ [.int k] }) D0 H0 D1 _ σ Dn e1 kn kb kc kr kx
    refine st_wset rfl (ev_opI (ev_w rfl (Or.inr rfl)) (ev_any ev_int)) ?_
    refine st_set (show 2 < 4 by decide) (ev_modI (ev_int1 (ev_opI (ev_w rfl (Or.inl rfl)) (ev_mulL ⟨by decide, by decide⟩ (ev_w rfl (Or.inr rfl))))) ev_int (by decide)) fun d2 p2 => ?_
    refine st_set (show 2 < 4 by decide) (ev_modI (ev_int1 (ev_opI (ev_opI (ev_mulI ((ev_var rfl).imp fun d e => by rw [e]; exact p2) ((ev_var rfl).imp fun d e => by rw [e]; exact any_of p2) (by decide) (by decide)) (ev_mulL ⟨by decide, by decide⟩ (ev_w rfl (Or.inr rfl)))) (ev_any ev_int))) ev_int (by decide)) fun d3 p3 => ?_
    refine st_set (show 2 < 4 by decide) (ev_modI (ev_int1 (ev_opI (ev_mulI ((ev_var rfl).imp fun d e => by rw [e]; exact p3) ((ev_var rfl).imp fun d e => by rw [e]; exact any_of p3) (by decide) (by decide)) (ev_w rfl (Or.inl rfl)))) ev_int (by decide)) fun d4 p4 => ?_
    refine st_retSeq ((ev_modI (ev_int1 (ev_divI ((ev_var rfl).imp fun d e => by rw [e]; exact any_of p4) ev_int ⟨by decide, by decide⟩)) (ev_var rfl) hk0).imp fun d q => ⟨k, rfl, q⟩)
  | cons c r =>
    refine iteT ?_
    have hlen : 3 < σ.length := e.lt (i := 3) rfl
    refine ⟨.ref a, h1, a, _, 0, .ref b, rfl, rfl, Or.inl (Or.inl ha2), rfl, b, _, 0, .int c, rfl, rfl, Or.inl (Or.inl hb2), atI_of (k := 0) rfl, ?_⟩
    have z0 : (σ.set 3 (some (V.int c)))[0]? = some (some (.ref a)) := by rw [List.getElem?_set_ne (by decide)]; exact h1
    have z1 : (σ.set 3 (some (V.int c)))[1]? = some (some (.int k)) := by rw [List.getElem?_set_ne (by decide)]; exact g1
    have z3 : (σ.set 3 (some (V.int c)))[3]? = some (some (.int c)) := List.getElem?_set_self hlen
    refine ⟨_, z3, _, z1, c, k, rfl, rfl, ⟨by omega, by omega⟩, .ref a, z0, a, _, 0, .ref b, rfl, rfl, Or.inl (Or.inl ha2), rfl, b, _, 0, 0, rfl, rfl, hb2, ixN_of (k := 0) (Nat.succ_pos _), ?_⟩
    have ha3 : (upd H2 b (.lst (((c :: r).map V.int).set 0 (.int (c.fdiv k))))) a = some (.lst [.ref b, .int m, .int n]) := by rw [upd_ne hab]; exact ha2
    refine ⟨_, z3, _, z1, c, k, rfl, rfl, _, rfl, ?_⟩
    by_cases hck : c < k
    · rw [decide_eq_true hck]
      refine iteT ?_
      refine ⟨.ref a, z0, a, _, 0, .ref b, rfl, rfl, Or.inl (Or.inl ha3), rfl, Or.inl ⟨rfl, _, Or.inl (Or.inl upd_same)⟩, b, _, 0, 0, _, rfl, rfl, upd_same, by decide, by decide, (ixN_seq (ixN_of (k := 0) (Nat.succ_pos _))).1, rfl, ?_⟩
      refine ⟨_, z3, Or.inl ⟨c, rfl, _, z1, c, k, rfl, rfl, by omega, ?_⟩⟩
      refine kr _ D1 _ (.int (c.fmod k)) ((e.st.trans e.ok0 s1).trans e.ok0 (.at e1.ok (fun p hp => ?_) ⟨hab, r, m, n, ?_, ?_⟩)) (.int _) ⟨k, rfl, _, rfl, Int.fmod_nonneg_of_pos c hk0, Int.fmod_lt_of_pos c hk0⟩
      · have hp2 : p ≠ b := fun z => hp (Or.inr z)
        rw [upd_ne hp2, upd_ne hp2]
      · rw [upd_ne hab]
        exact ha3
      · rw [upd_same]
        rfl
    · rw [decide_eq_false hck]
      refine iteF ?_
      refine ⟨_, z3, Or.inl ⟨c, rfl, _, z1, c, k, rfl, rfl, by omega, ?_⟩⟩
      refine kr _ D1 _ (.int (c.fmod k)) ((e.st.trans e.ok0 s1).trans e.ok0 (.at e1.ok (fun p hp => ?_) ⟨hab, c.fdiv k :: r, m, n, ha3, upd_same⟩)) (.int _) ⟨k, rfl, _, rfl, Int.fmod_nonneg_of_pos c hk0, Int.fmod_lt_of_pos c hk0⟩
      have hp2 : p ≠ b := fun z => hp (Or.inr z)
      rw [upd_ne hp2]
def pickP (ds : List PyData) : Prop := ∃ xs : List PyData, ds = [.list xs] ∧ xs ≠ [] ∧ xs.length < 1000000
def pickQ (ds : List PyData) (d : PyData) : Prop := ∃ xs : List PyData, ds = [.list xs] ∧ d ∈ xs
abbrev sp_pick (K : PySem.W.Frag) : Sp := spW K 1 pickP pickQ
theorem ok__law_pick : FnOk P w K mg base CX0 2 T.f__law_pick T.fd__law_pick ["well", "items"] (sp_pick K) := by
  refine ok_W T.F__law_pick sc__law_pick fun a b cdv A outer s H E hr ds hl hp => ⟨_, (pss_cons (ps_ret (pe_ix ix_list (pv 1) (pe_call (ok__law_draw T) (hr.mono (by decide)) rfl T.g__law_draw T.F__law_draw.kp T.b__law_draw .nil pass0 (pa_cons (pv 0) (pa_cons (pe_callB call_len_seq rfl T.n_len (by decide +kernel) (pa_cons (pv 1) pa_nil)) pa_nil))) (fun _ _ => rfl))) pss_nil), ?_⟩
  obtain ⟨xs, rfl, hx0, hx1⟩ := hp
  show StG K (Wl a b) _ _ [.rt, .dat (.list xs)] _
  have hpos : 0 < xs.length := by
    cases xs with
    | nil => exact (hx0 rfl).elim
    | cons x xs => simp
  refine st_retSeq ((ev_ixL (P := fun d => d ∈ xs) (ev_var rfl) (ev_callWD (P := isI 0 xs.length) rfl (ea_consD (ev_cbD (ea_consD (ev_var rfl) ea_nil) rc_lenL) ea_nil) rfl ⟨_, rfl, by omega, by omega⟩ ?_) ?_).imp fun d q => ⟨xs, rfl, q⟩)
  · rintro d ⟨k, e, q⟩
    cases e
    exact q
  · rintro d1 d2 rfl ⟨i, rfl, q0, q1⟩
    obtain ⟨d, e1, e2⟩ := Alls.pick (P := fun d => d ∈ xs) (n := xs.length) ⟨rfl, fun d h => h⟩ q0 q1
    exact ⟨xs, i, d, rfl, rfl, e1, e2⟩

end
end K07

namespace K07
open PySem PySem.Spec PyProof.Rows L2 Dl
section
variable {P : Program} {w : World} {K : PySem.W.Frag} {mg : Str → Option Value} {base : Heap} (T : Txt K mg)
theorem ok__law_well : FnOk P w K mg base CX0 1 T.f__law_well T.fd__law_well ["script"] (sp_well K) := by
  refine T.F__law_well.ok sc__law_well (fun vs H Q E h => ?_) (fun cdv A outer s H vs Q E hr h => ⟨_, (pss_cons (ps_par (i := 2) (j := 3) rfl sc__law_well.nd rfl rfl (by decide) rfl rfl (pa_cons (pe_lc (own := [("cell", 1)]) rfl sc__law_well.nd (pi_list (pe_slice sl_list (pv 0) po_none (po_some pe_int))) (blkOk_by (N := N__law_well) (sc := defScope s__law_well) (by decide +kernel)) (fun _ _ _ _ _ => pg_name (i := 1) sc__law_well.nd rfl (Or.inl rfl)) (fun _ _ _ _ _ => pts_nil) (fun _ _ _ _ _ => (pe_op op_add (pe_op op_mul pe_int (pe_callB call_abs rfl T.n_abs (by decide +kernel) (pa_cons (pv 1) pa_nil))) (pe_callTy call_int1 rfl T.n_int (by decide +kernel) (pa_cons (pe_cmpR op_lt (pv 1) pe_int (nomark _)) pa_nil))))) (pa_cons (pe_op op_add pe_int (pe_callB call_len_seq rfl T.n_len (by decide +kernel) (pa_cons (pv 0) pa_nil))) pa_nil)) rfl) (pss_cons (ps_for PassesOwn.never rfl (pi_list (pv 2)) (pg_name (i := 1) sc__law_well.nd rfl (Or.inl rfl)) (pss_cons (ps_set (i := 3) sc__law_well.nd rfl (Or.inl rfl) (pe_op op_modN (pe_callTy call_int1 rfl T.n_int (by decide +kernel) (pa_cons (pe_op op_add (pe_op op_mul (pv 3) pe_int) (pv 1)) pa_nil)) pe_int)) pss_nil)) (pss_cons (ps_ret (pe_lst (pa_cons (pe_lc (own := [("cell", 1)]) rfl sc__law_well.nd (pi_list (pv 2)) (blkOk_by (N := N__law_well) (sc := defScope s__law_well) (by decide +kernel)) (fun _ _ _ _ _ => pg_name (i := 1) sc__law_well.nd rfl (Or.inl rfl)) (fun _ _ _ _ _ => pts_one (pt_cmpR op_gt (pv 1) (pe_op op_pow pe_int pe_int) (nomark _))) (fun _ _ _ _ _ => (pv 1))) (pa_cons (pv 3) (pa_cons pe_int pa_nil))))) pss_nil))), ?_⟩)
  · obtain ⟨s, ns, rfl, _⟩ := h
    rfl
  obtain ⟨sa, ns, rfl, hS, hn, k⟩ := h
  have o0 : Ok Fx.non H H := ⟨Same.refl H, trivial, fun _ h => h.elim⟩
  have e0 : Env K Fx.non H H H H (start N__law_well [.ref sa]) (ins N__law_well [.list (ns.map .int)]) := env_start o0 (.cons (.lst hS (DqA.ints ns)) .nil) (by show 1 ≤ 4; decide)
  refine run2 ?_
  refine (?_ : StG K Fx.non (fun _ => False) (tSeq _ (tSeq _ tNext)) [.dat (.list (ns.map .int)), .any, .any, .any] { nx := fun ρ => ∃ (s1 : Sk) (m : Int) (cs : List Int), ρ = [.dat (.list (ns.map .int)), s1, .dat (.list (cs.map PyData.int)), .dat (.int m)] ∧ cs.length ≤ 63, rt := fun _ => False }) H H H H _ _ e0 ?_ (fun _ _ _ _ _ _ z => z.elim) (fun _ _ _ _ _ _ z => z.elim) (fun _ _ _ _ _ _ z => z.elim) (fun _ _ _ z => z.elim)
  · refine st_par (show 2 < 4 by decide) (show 3 < 4 by decide) (ea_cons (P := fun d => ∃ cs : List Int, (cs.length ≤ 63) ∧ d = .list (cs.map PyData.int)) (EvN.imp (EvF.ev (evf_lc (P := fun es => ∃ i j, es = ((ns.map PyData.int).drop i).take j) (vs := [1]) (fun v hv => by simp at hv; rw [hv]; show 1 < 4; decide)
        (ei_listN (EvF.ev (evf_slL (ev_var rfl) eo_no (eo_some ev_int fun d e => ⟨_, e⟩)))) (fun ds i acc => acc.length = i ∧ ∀ d ∈ acc, anyI d) (fun _ _ => ⟨rfl, fun d h => nomatch h⟩) ?_ ?_)) ?_)
      (ea_cons (P := anyI) (ev_opI (ev_any ev_int) ((ev_cbD (ea_consD (ev_var rfl) ea_nil) rc_lenL).imp fun d e => ⟨_, e⟩)) ea_nil)) ?_
    · rintro ds ⟨i, j, rfl⟩
      rw [List.length_take, List.length_drop, List.length_map]
      omega
    · rintro ds i d acc ⟨i', j', rfl⟩ hd ⟨ha, hacc⟩
      have hda : anyI d := by
        have := List.mem_of_mem_drop (List.mem_of_mem_take (List.mem_of_getElem? hd))
        rw [List.mem_map] at this
        obtain ⟨x, _, e⟩ := this
        exact ⟨x, e.symm⟩
      obtain ⟨x, rfl⟩ := hda
      refine ⟨_, [1], _, _, fun j hj => hj, eg_name (show 1 < 4 by decide), pt_yes, fun _ => ⟨ev_opI (ev_mulL ⟨by decide, by decide⟩ (ev_absI (ev_any (ev_var rfl)))) (ev_intB (ev_opB (ev_any (ev_var rfl)) (ev_any ev_int))), fun y hy => ⟨by rw [List.length_append, ha]; rfl, fun d hd => ?_⟩⟩, fun z => nomatch z⟩
      rcases List.mem_append.mp hd with hd | hd
      · exact hacc d hd
      · rw [List.mem_singleton] at hd
        rw [hd]
        exact hy
    · rintro d ⟨es, ⟨ds, ⟨i, j, rfl⟩, hl, he⟩, rfl⟩
      obtain ⟨cs, e1⟩ := ints_of es he
      refine ⟨cs, ?_, by rw [e1]⟩
      have h1 : cs.length = es.length := by rw [e1, List.length_map]
      rw [h1, hl, List.length_take, List.length_drop, List.length_map]
      omega
    · rintro ds ⟨d1, r, rfl, ⟨cs, hcs, rfl⟩, d2, r2, rfl, ⟨m, rfl⟩, rfl⟩
      refine ⟨_, _, rfl, ?_⟩
      refine st_for (ei_list (ev_var rfl)) (fun ds i ρ => ∃ (s1 : Sk) (m : Int), ρ = [.dat (.list (ns.map .int)), s1, .dat (.list (cs.map PyData.int)), .dat (.int m)]) (fun ρ => ∃ (s1 : Sk) (m : Int), ρ = [.dat (.list (ns.map .int)), s1, .dat (.list (cs.map PyData.int)), .dat (.int m)])
        (fun ds e => ⟨_, m, rfl⟩) ?_ (fun ds ρ' _ h => h) (fun ρ' ⟨s1, m, e⟩ => st_next ⟨s1, m, cs, e, hcs⟩)
      rintro ds i d ρ1 rfl hd ⟨s1, m, rfl⟩
      have hda : anyI d := by
        have := List.mem_of_getElem? hd
        rw [List.mem_map] at this
        obtain ⟨x, _, e⟩ := this
        exact ⟨x, e.symm⟩
      obtain ⟨x, rfl⟩ := hda
      refine ⟨_, [1], eg_name (show 1 < 4 by decide), ?_⟩
      refine st_set (show 3 < 4 by decide) (ev_modI (ev_int1 (ev_opI (ev_mulR (ev_any (ev_var rfl)) ⟨by decide, by decide⟩) (ev_any (ev_var rfl)))) ev_int (by decide)) fun d2 p2 => ?_
      obtain ⟨m2, rfl, _⟩ := p2
      exact st_next ⟨_, m2, rfl⟩
  · rintro σ' D' H' ρ' g e' ⟨s1, m, cs, rfl, hcs⟩
    have hF : EvF K Fx.non (tLc (iList K (tVar 2)) (gName 1) (tTest (tOp (rI0 fun i j => .bl (decide (j < i))) (tVar 1) (tOp (rI CPow fun i j => .int (i ^ j.toNat)) (tC (.int 10)) (tC (.int 15))))) (tVar 1) [1]) [.dat (.list (ns.map .int)), s1, .dat (.list (cs.map PyData.int)), .dat (.int m)] (fun es => ∃ xs : List Int, es = xs.map .int) := by
      refine (evf_lc (P := (· = cs.map PyData.int)) (vs := [1]) (fun v hv => by simp at hv; rw [hv]; show 1 < 4; decide) (ei_list (ev_var rfl)) (fun ds i acc => ∀ d ∈ acc, anyI d) (fun _ _ => fun d h => nomatch h) (fun ds e => by rw [e, List.length_map]; omega) ?_).imp fun es ⟨ds, _, h⟩ => ints_of es h
      rintro ds i d acc rfl hd hacc
      have hda : anyI d := by
        have := List.mem_of_getElem? hd
        rw [List.mem_map] at this
        obtain ⟨x, _, e⟩ := this
        exact ⟨x, e.symm⟩
      obtain ⟨x, rfl⟩ := hda
      refine ⟨_, [1], fun _ => True, anyI, fun j hj => hj, eg_name (show 1 < 4 by decide), et_test (ev_opB (ev_any (ev_var rfl)) (ev_op (P := anyI) ev_int ev_int fun d1 d2 e1 e2 => ?_)) (fun d ⟨b, e⟩ => ⟨b, e, trivial⟩), fun _ => ⟨ev_any (ev_var rfl), fun y hy d hd => ?_⟩, fun _ => hacc⟩
      · subst e1
        subst e2
        exact (rd_I ⟨by decide, by decide, by decide⟩ fun _ => .int _).imp fun d e => ⟨_, e⟩
      · rcases List.mem_append.mp hd with hd | hd
        · exact hacc d hd
        · rw [List.mem_singleton] at hd
          rw [hd]
          exact hy
    show tSeq _ _ _ σ' H'
    unfold tSeq tRet tLst tCons
    dsimp only
    show tLc _ _ _ _ _ σ' H' _
    refine hF H H D' H' σ' e' _ fun l xs D2 H2 es s2 hl hdl hl2 q2 p2 => ?_
    obtain ⟨ys, rfl⟩ := p2
    have ex := q2.isInts ys
    subst ex
    have e2 := e'.step s2
    obtain ⟨o, g1, v, g2, g3⟩ := e2.slot 3 _ rfl
    subst g2
    cases g3
    refine ⟨_, g1, (by show 3 ≤ sizeLine; exact sz _ (by omega)), fun p hp => ?_⟩
    have sH : Same H H2 := fun x u hx => e2.st.off x u (fun z => z) hx
    have hlp : l ≠ p := ne_of_none hl2 hp
    refine k _ p l ys m 0 (sH.trans (same_new hp)) (fresh_of o0 e2.st hp) (fresh_of o0 e'.st hl) (Ne.symm hlp) upd_same ?_
    rw [upd_ne hlp]
    exact hl2

end
end K07

namespace K07
open PySem PySem.Spec PyProof.Rows L2 Dl
section
variable {P : Program} {w : World} {K : PySem.W.Frag} {mg : Str → Option Value} {base : Heap} (T : Txt K mg)
/-- a small item -/
inductive Sc : PyData → Prop
  | none : Sc .none
  | bool (b : Bool) : Sc (.bool b)
  | int {i : Int} (h : i.natAbs < 10 ^ 42) : Sc (.int i)
  | str {z : Str} (h : z.length ≤ 13) (hc : ∀ c ∈ z.cps.toList, c < 1114112) : Sc (.str z)
def bnd : Nat → Nat
  | 0 => 40
  | 1 => 4
  | 2 => 4
  | 3 => 4
  | 4 => 8
  | _ => 3
theorem bnd_le (n : Nat) : bnd n ≤ 40 := by
  unfold bnd
  split <;> decide
theorem bnd_3 (n : Nat) : 3 ≤ bnd n := by
  unfold bnd
  split <;> decide
/-- small items, rows of them and so on; b: dicts without items, too, but not in lists -/
def Gl : Nat → Bool → PyData → Prop
  | 0, b, d => Sc d ∨ (b = true ∧ d = .dict [])
  | n + 1, b, d => Gl n b d ∨ ∃ ds : List PyData, ((d = .tuple ds ∧ ∀ x ∈ ds, Gl n b x) ∨ (d = .list ds ∧ ∀ x ∈ ds, Gl n false x)) ∧ ds.length ≤ bnd n
theorem Gl.up {n : Nat} {b : Bool} {d : PyData} (h : Gl n b d) : Gl (n + 1) b d := Or.inl h
theorem Gl.one {b : Bool} {d : PyData} (h : Sc d) : Gl 1 b d := Or.inl (Or.inl h)
theorem sc_w {z : Str} (h : (decide (z.length ≤ 13) && z.cps.toList.all fun c => decide (c < 1114112)) = true) : Sc (.str z) := by
  rw [Bool.and_eq_true, List.all_eq_true] at h
  exact .str (of_decide_eq_true h.1) fun c hc => of_decide_eq_true (h.2 c hc)
theorem Gl.le {n : Nat} {b : Bool} {d : PyData} (h : Gl n b d) : ∀ {m : Nat}, n ≤ m → Gl m b d := fun {m} hm => by
  induction hm with
  | refl => exact h
  | step _ ih => exact ih.up
theorem Gl.sc {n : Nat} {b : Bool} {d : PyData} (h : Sc d) : Gl n b d := Gl.le (n := 0) (Or.inl h) (Nat.zero_le n)
theorem Gl.any : ∀ {n : Nat} {d : PyData}, Gl n false d → ∀ b, Gl n b d
  | 0, d, h, b => h.elim Or.inl fun z => nomatch z.1
  | n + 1, d, h, b => by
    rcases h with h | ⟨ds, h | h, hl⟩
    · exact Or.inl (h.any b)
    · exact Or.inr ⟨ds, Or.inl ⟨h.1, fun x hx => (h.2 x hx).any b⟩, hl⟩
    · exact Or.inr ⟨ds, Or.inr h, hl⟩
theorem Gl.tup {n : Nat} {b : Bool} {ds : List PyData} (hn : ds.length ≤ bnd n) (h : ∀ x ∈ ds, Gl n b x) : Gl (n + 1) b (.tuple ds) := Or.inr ⟨ds, Or.inl ⟨rfl, h⟩, hn⟩
theorem Gl.lst {n : Nat} {b : Bool} {ds : List PyData} (hn : ds.length ≤ bnd n) (h : ∀ x ∈ ds, Gl n false x) : Gl (n + 1) b (.list ds) := Or.inr ⟨ds, Or.inr ⟨rfl, h⟩, hn⟩
theorem Gl.tupItems {n : Nat} {b : Bool} {ds : List PyData} : Gl (n + 1) b (.tuple ds) → ∀ x ∈ ds, Gl n b x := by
  induction n with
  | zero =>
    rintro (h | ⟨es, h | h, _⟩)
    · rcases h with h | h
      · cases h
      · cases h.2
    · cases h.1
      exact h.2
    · cases h.1
  | succ n ih =>
    rintro (h | ⟨es, h | h, _⟩)
    · exact fun x hx => (ih h x hx).up
    · cases h.1
      exact h.2
    · cases h.1
theorem Gl.tupLen : ∀ {n : Nat} {b : Bool} {ds : List PyData}, Gl n b (.tuple ds) → ds.length ≤ 40
  | 0, b, ds, h => by
    rcases h with h | h
    · cases h
    · cases h.2
  | n + 1, b, ds, h => by
    rcases h with h | ⟨es, h | h, hl⟩
    · exact h.tupLen
    · cases h.1
      exact Nat.le_trans hl (bnd_le n)
    · cases h.1
theorem Gl.items {n : Nat} {b : Bool} {ds : List PyData} (h : Gl n b (.tuple ds)) : ∀ x ∈ ds, Gl n b x := by
  cases n with
  | zero =>
    rcases h with h | h
    · cases h
    · cases h.2
  | succ n => exact fun x hx => (h.tupItems x hx).up
theorem Gl.str : ∀ {n : Nat} {b : Bool} {z : Str}, Gl n b (.str z) → z.length ≤ 13
  | 0, b, z, h => by
    rcases h with h | h
    · cases h with
      | str h _ => exact h
    · cases h.2
  | n + 1, b, z, h => by
    rcases h with h | ⟨es, h | h, _⟩
    · exact h.str
    · cases h.1
    · cases h.1
def wF : Nat → Nat
  | 0 => 132
  | n + 1 => 4 + bnd n * (wF n + 2)
theorem wF_le (n : Nat) : wF n ≤ wF (n + 1) := by
  show wF n ≤ 4 + bnd n * (wF n + 2)
  have := bnd_3 n
  have h : 1 * (wF n + 2) ≤ bnd n * (wF n + 2) := Nat.mul_le_mul_right _ (by omega)
  omega
theorem Sc.sm {d : PyData} (h : Sc d) : Sm 132 1 d := by
  cases h with
  | none => exact Sm.none.le (by decide) (Nat.le_refl 1)
  | bool b => exact (Sm.bool b).le (by decide) (Nat.le_refl 1)
  | int h => exact (Sm.int (k := 42) (by decide) h (by decide)).le (by decide) (Nat.le_refl 1)
  | str h hc => exact Sm.str h fun c hm => Nat.lt_trans (hc c hm) (by decide)
theorem Gl.sd : ∀ {n : Nat} {b : Bool} {d : PyData}, Gl n b d → Sd (wF n) (n + 1) d
  | 0, b, d, h => by
    rcases h with h | ⟨_, rfl⟩
    · exact h.sm.sd
    · exact Sd.dict0.le (by decide) (Nat.le_refl 1)
  | n + 1, b, d, h => by
    rcases h with h | ⟨ds, h | h, hl⟩
    · exact (Gl.sd h).le (wF_le n) (Nat.le_succ _)
    · rw [h.1]
      exact Sd.tuple (fun x hx => Gl.sd (h.2 x hx)) hl
    · rw [h.1]
      exact Sd.list (fun x hx => Gl.sd (h.2 x hx)) hl
theorem lay_all : ∀ ds : List PyData, (∀ d ∈ ds, d.canLay0 = true) → PyData.canLayAll0 ds = true
  | [], _ => by simp [PyData.canLayAll0]
  | d :: ds, h => by
    have h1 := lay_all ds fun x hx => h x (List.mem_cons_of_mem _ hx)
    simp [PyData.canLayAll0, h1, h d List.mem_cons_self]
theorem Gl.lay : ∀ {n : Nat} {d : PyData}, Gl n false d → d.canLay0 = true
  | 0, d, h => by
    rcases h with h | ⟨h, _⟩
    · cases h with
      | str h hc =>
        simp only [PyData.canLay0, PyData.strOk]
        rw [← Array.all_toList, List.all_eq_true]
        exact fun c hm => decide_eq_true (hc c hm)
      | _ => simp [PyData.canLay0]
    · cases h
  | n + 1, d, h => by
    rcases h with h | ⟨ds, h | h, hl⟩
    · exact Gl.lay h
    · rw [h.1]
      simp only [PyData.canLay0]
      exact lay_all ds fun x hx => Gl.lay (h.2 x hx)
    · rw [h.1]
      simp only [PyData.canLay0]
      exact lay_all ds fun x hx => Gl.lay (h.2 x hx)
theorem Gl.shaped {n : Nat} {d : PyData} (h : Gl n false d) (hn : n ≤ 60) : SeqAt.shaped d = true := by
  unfold SeqAt.shaped
  rw [h.lay, Bool.true_and]
  have := h.sd.c
  exact decide_eq_true (by omega)
theorem Gl.nodict : ∀ {n : Nat} {d : PyData}, Gl n false d → ∀ kvs, d ≠ .dict kvs
  | 0, d, h, kvs => by
    rcases h with h | ⟨h, _⟩
    · cases h <;> exact fun z => nomatch z
    · cases h
  | n + 1, d, h, kvs => by
    rcases h with h | ⟨ds, h | h, _⟩
    · exact Gl.nodict h kvs
    · rw [h.1]; exact fun z => nomatch z
    · rw [h.1]; exact fun z => nomatch z
theorem Gl.few {n : Nat} {b : Bool} {d : PyData} (h : Gl n b d) : few d := fun ds e => by
  subst e
  have := h.tupLen
  omega
theorem Gl.short {n : Nat} {b : Bool} {d : PyData} (h : Gl n b d) : short d := fun z e => by
  subst e
  have := h.str
  omega
theorem Gl.tameC {n : Nat} {b : Bool} {d : PyData} (h : Gl n b d) : tameC d := fun ds e x hx => by
  subst e
  exact (h.items x hx).short
theorem Gl.fewC {n : Nat} {b : Bool} {d : PyData} (h : Gl n b d) : fewC d := fun ds e x hx => by
  subst e
  exact (h.items x hx).few
theorem Gl.tameT {n : Nat} {b : Bool} {d : PyData} (h : Gl n b d) : tameT d := fun ds e x hx => by
  subst e
  have hx := h.items x hx
  exact ⟨hx.few, fun cs e c hc => by subst e; exact (hx.items c hc).tameC⟩
theorem Gl.calls {n : Nat} {b : Bool} {t : PyData} (h : Gl n b t) : (callsOf t).length ≤ 40 := by
  unfold callsOf
  split
  · rename_i a c cs
    exact (h.items (.tuple cs) (by simp)).tupLen
  · exact Nat.zero_le _
theorem flat_le {α β : Type} {f : α → List β} {k : Nat} : ∀ {ts : List α}, (∀ t ∈ ts, (f t).length ≤ k) → (ts.flatMap f).length ≤ ts.length * k
  | [], _ => Nat.zero_le _
  | t :: ts, h => by
    rw [List.flatMap_cons, List.length_append, List.length_cons, Nat.succ_mul]
    have h1 := h t List.mem_cons_self
    have h2 := flat_le (f := f) (k := k) (ts := ts) fun x hx => h x (List.mem_cons_of_mem _ hx)
    omega
theorem Gl.names {n : Nat} {b : Bool} {ts : List PyData} (h : Gl n b (.tuple ts)) : (namesOf ts).length ≤ 4000 := by
  unfold namesOf
  have h1 := flat_le (f := fun t => (callsOf t).map nmOf) (k := 40) (ts := ts) fun t ht => by
    rw [List.length_map]
    exact (h.items t ht).calls
  have := h.tupLen
  omega
theorem sc_nat {n : Nat} (h : n ≤ 1000000) : Sc (.int (n : Int)) := .int (by omega)
theorem Gl.pair {b : Bool} {x y : PyData} {n : Nat} (hx : Gl n b x) (hy : Gl n b y) : Gl (n + 1) b (.tuple [x, y]) := .tup (by have := bnd_3 n; show 2 ≤ bnd n; omega) fun z hz => by
  simp only [List.mem_cons, List.not_mem_nil, or_false] at hz
  rcases hz with rfl | rfl
  · exact hx
  · exact hy
theorem Gl.trip {b : Bool} {x y z : PyData} {n : Nat} (hx : Gl n b x) (hy : Gl n b y) (hz : Gl n b z) : Gl (n + 1) b (.tuple [x, y, z]) := .tup (bnd_3 n) fun u hu => by
  simp only [List.mem_cons, List.not_mem_nil, or_false] at hu
  rcases hu with rfl | rfl | rfl
  · exact hx
  · exact hy
  · exact hz
theorem callsE_fl {x : PyData} {p : Nat} (hp : p ≤ 1000) (hx : ∀ cs, x = .tuple cs → cs.length ≤ 100000) : Gl 1 false (callsE p x) := by
  have hp := sc_nat (n := p) (by omega)
  unfold callsE
  split
  · exact .pair (.sc (sc_w (by decide +kernel))) (.sc hp)
  · rename_i cs _
    have hc := hx _ rfl
    split
    · rename_i i hi
      have := List.mem_range.mp (List.mem_of_find?_eq_some hi)
      exact .trip (.sc (sc_w (by decide +kernel))) (.sc hp) (.sc (sc_nat (by omega)))
    · split
      · rename_i i hi
        have := List.mem_range.mp (List.mem_of_find?_eq_some hi)
        exact .trip (.sc (sc_w (by decide +kernel))) (.sc hp) (.sc (sc_nat (by omega)))
      · exact .sc .none
  · exact .pair (.sc (sc_w (by decide +kernel))) (.sc hp)
theorem trainE_fl {l least : Int} {p : Nat} {t : PyData} (hp : p ≤ 1000) (ht : tameT t) : Gl 1 false (trainE l least p t) := by
  have hp2 := sc_nat (n := p) (by omega)
  unfold trainE
  split
  · rename_i n ds cs
    split
    · split
      · exact callsE_fl hp (ht _ rfl cs (by simp)).1
      · exact .pair (.sc (sc_w (by decide +kernel))) (.sc hp2)
    · exact .pair (.sc (sc_w (by decide +kernel))) (.sc hp2)
  · exact .pair (.sc (sc_w (by decide +kernel))) (.sc hp2)
theorem countE_fl (ts : List PyData) : Gl 1 false (countE ts) := by
  unfold countE
  split
  · exact .sc (sc_w (by decide +kernel))
  · split
    · exact .sc (sc_w (by decide +kernel))
    · exact .sc .none
theorem planE_right {f l h t : PyData} (hb : calB (.tuple [f, l, h]) = true) : planE (.tuple [.tuple [f, l, h], t]) = (match t with
    | .tuple ts => if 24 < ts.length then .str "trains" else (firstE (toI l) ts).getD (countE ts)
    | _ => .str "trains") := by
  unfold planE
  dsimp only
  rw [if_pos hb]
  cases t <;> rfl
theorem planE_wrong {c t : PyData} (hb : ¬ calB c = true) : planE (.tuple [c, t]) = .str "calendar" := by
  unfold planE
  dsimp only
  rw [if_neg hb]
theorem firstE_is {l : Int} {ts : List PyData} : firstE l ts = none ∨ ∃ (i : Nat) (hi : i < ts.length), firstE l ts = some (trainE l (leastOf ts i) i ts[i]) := by
  unfold firstE
  cases hf : (List.range ts.length).find? fun i => !isNone (errAt l ts i) with
  | none => exact Or.inl rfl
  | some i =>
    have hi := List.mem_range.mp (List.mem_of_find?_eq_some hf)
    refine Or.inr ⟨i, hi, ?_⟩
    show some (errAt l ts i) = _
    unfold errAt
    rw [List.getElem?_eq_getElem hi]
theorem planE_fl {v : PyData} (hv : tameV v) : Gl 1 false (planE v) := by
  by_cases h2 : ∃ c t, v = .tuple [c, t]
  · obtain ⟨c, t, rfl⟩ := h2
    obtain ⟨_, hts⟩ := hv _ _ rfl
    by_cases hb : calB c = true
    · obtain ⟨f, l, h, rfl, _⟩ := cal_of hb
      rw [planE_right hb]
      cases t with
      | tuple ts =>
        dsimp only
        split
        · exact .sc (sc_w (by decide +kernel))
        · rcases firstE_is (l := toI l) (ts := ts) with h | ⟨i, hi, h⟩
          · rw [h]
            exact countE_fl ts
          · rw [h]
            exact trainE_fl (by omega) ((hts ts rfl).1 _ (List.getElem_mem hi))
      | _ => exact .sc (sc_w (by decide +kernel))
    · rw [planE_wrong hb]
      exact .sc (sc_w (by decide +kernel))
  · have : planE v = .str "form" := by
      unfold planE
      split
      · rename_i c t
        exact (h2 ⟨c, t, rfl⟩).elim
      · rfl
    rw [this]
    exact .sc (sc_w (by decide +kernel))

end
end K07

namespace K07
open PySem PySem.Spec PyProof.Rows L2 Dl
section
variable {P : Program} {w : World} {K : PySem.W.Frag} {mg : Str → Option Value} {base : Heap} (T : Txt K mg)
theorem ev_draw {a b : Addr} {ρ : List Sk} {te : TE} {k : Int} {i : Nat} {E : XK} (hi : ρ[i]? = some .rt) (h : EvD K (Wl a b) te ρ (.int k)) (h0 : 0 < k) (h1 : k < 1000000) :
    EvN K (Wl a b) (tCall (sp_draw K) [] E (tCons (tVar i) (tCons te tNil))) ρ (isI 0 k) :=
  ev_callWD hi (ea_consD h ea_nil) rfl ⟨k, rfl, h0, h1⟩ fun d ⟨k', e, q⟩ => by
    cases e
    exact q
theorem ev_pick {a b : Addr} {ρ : List Sk} {te : TE} {n i : Nat} {P : PyData → Prop} {E : XK} (hi : ρ[i]? = some .rt) (h : EvN K (Wl a b) te ρ (fun d => ∃ ds, Alls P n ds ∧ d = .list ds)) (h0 : 0 < n) (h1 : n < 1000000) :
    EvN K (Wl a b) (tCall (sp_pick K) [] E (tCons (tVar i) (tCons te tNil))) ρ P :=
  (ev_callW hi (ea_cons h ea_nil) fun ds ⟨d, r, e, ⟨xs, hx, e1⟩, e2⟩ => by
    subst e
    subst e1
    subst e2
    exact ⟨rfl, xs, rfl, fun z => by rw [z] at hx; have := hx.1; simp at this; omega, by rw [hx.1]; exact h1⟩).imp fun d ⟨ds, ⟨d', r, e, ⟨xs, hx, e1⟩, e2⟩, ys, e3, q⟩ => by
      subst e
      subst e1
      subst e2
      cases e3
      exact hx.2 d q
theorem ev_neg {W : Fx} {ρ : List Sk} {k : Int} : EvD K W (tUn (rU fun i => .int (-i)) (tC (.int k))) ρ (.int (-k)) := ev_un (P1 := (· = .int k)) ev_int fun d1 e D H x o hx Q q => by
  subst e
  cases hx
  exact ⟨k, rfl, q _ D H _ (.refl o) (.int _) rfl⟩
theorem ev_pow {W : Fx} {ρ : List Sk} {n : Int} (h : CPow 10 n) : EvD K W (tOp (rI CPow fun i j => .int (i ^ j.toNat)) (tC (.int 10)) (tC (.int n))) ρ (.int (10 ^ n.toNat)) := ev_opD ev_int ev_int (rd_I h fun _ => .int _)
/-- rising days of a span -/
def isHol (n : Int) (d : PyData) : Prop := ∃ hs : List Int, d = .tuple (hs.map .int) ∧ hs.Pairwise (· < ·) ∧ (∀ h ∈ hs, 0 ≤ h ∧ h < n) ∧ (hs.length : Int) ≤ n
def isDays (n : Int) (d : PyData) : Prop := isHol n d ∧ d ≠ .tuple []
def isCal (d : PyData) (n : Int) : Prop := ∃ f hs, d = .tuple [.int f, .int n, hs] ∧ 0 ≤ f ∧ f < 7 ∧ 1 ≤ n ∧ n ≤ 30 ∧ isHol n hs
theorem sc_int {i : Int} (h0 : -100000 ≤ i) (h1 : i ≤ 100000) : Sc (.int i) := .int (by omega)
theorem isHol.gl {n : Int} {d : PyData} {b : Bool} (h : isHol n d) (hn : n ≤ 30) : Gl 1 b d := by
  obtain ⟨hs, rfl, _, h2, h3⟩ := h
  refine .tup (by rw [List.length_map]; show hs.length ≤ 40; omega) fun x hx => ?_
  obtain ⟨k, hk, rfl⟩ := List.mem_map.mp hx
  have := h2 k hk
  exact .sc (sc_int (by omega) (by omega))
theorem isCal.gl {d : PyData} {n : Int} {b : Bool} (h : isCal d n) : Gl 2 b d := by
  obtain ⟨f, hs, rfl, h0, h1, h2, h3, h4⟩ := h
  exact .trip (.sc (sc_int (by omega) (by omega))) (.sc (sc_int (by omega) (by omega))) (h4.gl h3)
theorem ok__law_calendar : FnOk P w K mg base CX0 3 T.f__law_calendar T.fd__law_calendar ["well", "most"] (spW K 1 (fun ds => ds = [.int 30]) (fun _ d => ∃ n, isCal d n)) := by
  refine ok_W T.F__law_calendar sc__law_calendar fun a b cdv A outer s H E hr ds hl hp => ⟨_, (pss_cons (ps_asg (pe_tup (pa_cons (pe_call (ok__law_draw T) (hr.mono (by decide)) rfl T.g__law_draw T.F__law_draw.kp T.b__law_draw .nil pass0 (pa_cons (pv 0) (pa_cons pe_int pa_nil))) (pa_cons (pe_op op_add pe_int (pe_call (ok__law_draw T) (hr.mono (by decide)) rfl T.g__law_draw T.F__law_draw.kp T.b__law_draw .nil pass0 (pa_cons (pv 0) (pa_cons (pv 1) pa_nil)))) (pa_cons (pe_op op_add pe_int (pe_call (ok__law_draw T) (hr.mono (by decide)) rfl T.g__law_draw T.F__law_draw.kp T.b__law_draw .nil pass0 (pa_cons (pv 0) (pa_cons pe_int pa_nil)))) pa_nil)))) (pg_tup rfl (pgs_cons (pg_name (i := 3) sc__law_calendar.nd rfl (Or.inl rfl)) (pgs_cons (pg_name (i := 4) sc__law_calendar.nd rfl (Or.inl rfl)) (pgs_cons (pg_name (i := 5) sc__law_calendar.nd rfl (Or.inr rfl)) pgs_nil))))) (pss_cons (ps_set (i := 2) sc__law_calendar.nd rfl (Or.inl rfl) (pe_callTy (call_tuple_of : CallR _ (.type "tuple") (rTupOf K)) rfl T.n_tuple (by decide +kernel) (pa_cons (pe_lc (own := [("day", 6)]) rfl sc__law_calendar.nd (pi_range1 rfl T.n_range (pa_cons (pv 4) pa_nil)) (blkOk_by (N := N__law_calendar) (sc := defScope s__law_calendar) (by decide +kernel)) (fun _ _ _ _ _ => pg_name (i := 6) sc__law_calendar.nd rfl (Or.inl rfl)) (fun _ _ _ _ _ => pts_one (pt_cmpR op_eq (pe_call (ok__law_draw T) (hr.mono (by decide)) rfl T.g__law_draw T.F__law_draw.kp T.b__law_draw .nil pass0 (pa_cons (pv 0) (pa_cons (pv 5) pa_nil))) pe_int (nomark _))) (fun _ _ _ _ _ => (pv 6))) pa_nil))) (pss_cons (ps_ret (pe_tup (pa_cons (pv 3) (pa_cons (pv 4) (pa_cons (pe_call (ok__law_pick T) (hr.mono (by decide)) rfl T.g__law_pick T.F__law_pick.kp T.b__law_pick .nil pass0 (pa_cons (pv 0) (pa_cons (pe_lst (pa_cons (pe_tup pa_nil) (pa_cons (pv 2) (pa_cons (pv 2) pa_nil)))) pa_nil))) pa_nil))))) pss_nil))), ?_⟩
  subst hp
  show StG K (Wl a b) _ _ [.rt, .dat (.int 30), .any, .any, .any, .any, .any] _
  refine st_asgG (ev_tup (ea_cons (ev_draw rfl ev_int (by decide) (by decide)) (ea_cons (P := isI 1 31) (ev_opI2 (PI := fun i => i = 1) (PJ := fun j => 0 ≤ j ∧ j < 30) (Pr := fun i => 1 ≤ i ∧ i < 31) (ev_int.imp fun d e => ⟨1, e, rfl⟩) (ev_draw rfl (ev_var rfl) (by omega) (by omega)) (fun i j h1 h2 => ⟨by omega, by omega⟩))
    (ea_cons (P := isI 2 9) (ev_opI2 (PI := fun i => i = 2) (PJ := fun j => 0 ≤ j ∧ j < 7) (Pr := fun i => 2 ≤ i ∧ i < 9) (ev_int.imp fun d e => ⟨2, e, rfl⟩) (ev_draw rfl ev_int (by decide) (by decide)) (fun i j h1 h2 => ⟨by omega, by omega⟩)) ea_nil))) (fun ds h => by obtain ⟨_, _, rfl, _, _, _, rfl, _, _, _, rfl, _, rfl⟩ := h; exact sz _ (by show 3 ≤ _; decide))) fun d hd => ?_
  obtain ⟨_, ⟨_, _, rfl, ⟨f, rfl, hf0, hf1⟩, _, _, rfl, ⟨n, rfl, hn0, hn1⟩, _, _, rfl, ⟨o, rfl, ho0, ho1⟩, rfl⟩, rfl⟩ := hd
  refine ⟨_, _, eg_tup (egs_cons (eg_name (show 3 < 7 by decide)) (egs_cons (eg_name (show 4 < 7 by decide)) (egs_cons (eg_name (show 5 < 7 by decide)) egs_nil))) rfl, ?_⟩
  obtain ⟨n, rfl⟩ := Int.eq_ofNat_of_zero_le (show 0 ≤ n by omega)
  refine st_set (P := isHol n) (show 2 < 7 by decide) ((ev_tupOfL (EvF.evB (evf_lc (P := (· = ups 0 n)) (vs := [6]) (fun v hv => by simp at hv; rw [hv]; show 6 < 7; decide) (ei_rng1 (n := (n : Int)) (ea_consD (ev_var rfl) ea_nil) (by omega) (by omega)) (fun ds i acc => ∃ hs : List Int, acc = hs.map .int ∧ hs.Pairwise (· < ·) ∧ (∀ h ∈ hs, 0 ≤ h ∧ h < (i : Int)) ∧ hs.length ≤ i) (fun _ _ => ⟨[], rfl, .nil, (fun x h => nomatch h), Nat.zero_le _⟩) (fun ds e => by rw [e, ups_len]; omega) ?_))).imp ?_) fun d5 hd5 => ?_
  · rintro _ i d acc rfl hd ⟨hs, rfl, hpw, hb, hlen⟩
    obtain ⟨hi, rfl⟩ := ups_at.mp hd
    refine ⟨_, [6], fun _ => True, _, fun j hj => hj, eg_name (show 6 < 7 by decide), et_test (ev_op (P := anyB) (ev_draw rfl (ev_var rfl) (by omega) (by omega)) ev_int ?_) (fun d ⟨b, e⟩ => ⟨b, e, trivial⟩), fun _ => ⟨ev_var rfl, fun y hy => ⟨hs ++ [(i : Int)], ?_, ?_, ?_, ?_⟩⟩, fun _ => ⟨hs, rfl, hpw, fun h hh => ⟨(hb h hh).1, by have := (hb h hh).2; omega⟩, by omega⟩⟩
    · rintro _ _ ⟨j, rfl, _⟩ rfl
      exact RD.imp rd_eqI fun d e => ⟨_, e⟩
    · rw [hy, List.map_append]
      simp
    · rw [List.pairwise_append]
      refine ⟨hpw, List.pairwise_singleton _ _, fun x hx y hy => ?_⟩
      rw [List.mem_singleton] at hy
      rw [hy]
      exact (hb x hx).2
    · intro h hh
      rcases List.mem_append.mp hh with hh | hh
      · exact ⟨(hb h hh).1, by have := (hb h hh).2; omega⟩
      · rw [List.mem_singleton] at hh
        exact ⟨by omega, by omega⟩
    · rw [List.length_append]
      simp
      omega
  · rintro _ ⟨_, ⟨_, rfl, hs, rfl, h1, h2, h3⟩, rfl⟩
    rw [ups_len] at h2 h3
    exact ⟨hs, rfl, h1, h2, by omega⟩
  have empty : isHol n (.tuple []) := ⟨[], rfl, .nil, (fun x h => nomatch h), by show (0 : Int) ≤ n; omega⟩
  refine st_retSeq (EvN.imp (ev_tup (ea_cons (ev_var rfl) (ea_cons (ev_var rfl) (ea_cons (P := isHol n) (ev_pick (n := 3) rfl (EvF.ev (evf_lst (ea_consA (EvN.imp (ev_tupD ea_nil (Nat.zero_le _)) fun d e => by rw [e]; exact empty) (ea_consA ((ev_var rfl).imp fun d e => by rw [e]; exact hd5) (ea_consA ((ev_var rfl).imp fun d e => by rw [e]; exact hd5) ea_nilA))) (fun ds h => by rw [h.1]; exact sz _ (by decide)))) (by decide) (by decide)) ea_nil)))
    (fun ds h => by obtain ⟨_, _, rfl, _, _, _, rfl, _, _, _, rfl, _, rfl⟩ := h; exact sz _ (by show 3 ≤ _; decide))) ?_)
  rintro _ ⟨_, ⟨_, _, rfl, rfl, _, _, rfl, rfl, hs, _, rfl, h3, rfl⟩, rfl⟩
  exact ⟨n, f, hs, rfl, hf0, hf1, by omega, by omega, h3⟩
theorem ups_days {m k : Nat} (h0 : 0 < k) (hk : k ≤ m) : isDays (m : Int) (.tuple (ups 0 k)) := by
  refine ⟨⟨(List.range k).map fun i => ((i : Nat) : Int), ?_, ?_, fun x hx => ?_, by rw [List.length_map, List.length_range]; omega⟩, fun z => ?_⟩
  · congr 1
    unfold ups
    rw [List.map_map]
    refine List.map_congr_left fun i _ => ?_
    show PyData.int (0 + (i : Int)) = PyData.int i
    rw [Int.zero_add]
  · exact List.Pairwise.map _ (fun a b h => by omega) List.pairwise_lt_range
  · obtain ⟨i, hi, rfl⟩ := List.mem_map.mp hx
    have := List.mem_range.mp hi
    exact ⟨by omega, by omega⟩
  · have h1 : (ups 0 k).length = 0 := by
      have : ups 0 k = [] := by simpa using z
      rw [this]
      rfl
    rw [ups_len] at h1
    omega
theorem rd_modN {W : Fx} {i j : Int} (h : j ≠ 0) : RD K W (rI (fun _ j => j ≠ 0) fun i j => .int (i.fmod j)) (.int i) (.int j) (· = .int (i.fmod j)) := rd_I (C := fun _ j => j ≠ 0) h fun _ => .int _
theorem range7 : ∀ j : Nat, j < 7 → ∀ m : Nat, m < 31 → j < m → Builtin.Range.small j m 7 = true := by decide +kernel
theorem range7n : ∀ j : Nat, j < 7 → ∀ m : Nat, m < 31 → Builtin.Range.small j m 7 = true := by decide +kernel
def someP (ds : List PyData) : Prop := ∃ n : Int, ds = [.int n] ∧ 1 ≤ n ∧ n ≤ 30
def someQ (ds : List PyData) (d : PyData) : Prop := ∃ n : Int, ds = [.int n] ∧ isDays n d
theorem ok__law_some : FnOk P w K mg base CX0 2 T.f__law_some T.fd__law_some ["well", "length"] (spW K 1 someP someQ) := by
  refine ok_W T.F__law_some sc__law_some fun a b cdv A outer s H E hr ds hl hp => ⟨_, (pss_cons (ps_asg (pe_tup (pa_cons (pe_call (ok__law_draw T) (hr.mono (by decide)) rfl T.g__law_draw T.F__law_draw.kp T.b__law_draw .nil pass0 (pa_cons (pv 0) (pa_cons pe_int pa_nil))) (pa_cons (pe_call (ok__law_draw T) (hr.mono (by decide)) rfl T.g__law_draw T.F__law_draw.kp T.b__law_draw .nil pass0 (pa_cons (pv 0) (pa_cons (pv 1) pa_nil))) pa_nil))) (pg_tup rfl (pgs_cons (pg_name (i := 2) sc__law_some.nd rfl (Or.inl rfl)) (pgs_cons (pg_name (i := 3) sc__law_some.nd rfl (Or.inr rfl)) pgs_nil)))) (pss_cons (ps_if (pt_cmpR op_eq (pv 2) pe_int (nomark _)) (pss_cons (ps_ret (pe_tupRg rfl rfl T.n_tuple (prg_1 rfl T.n_range (pv 1)))) pss_nil) pss_nil) (pss_cons (ps_if (pt_cmpR op_eq (pv 2) pe_int (nomark _)) (pss_cons (ps_ret (pe_tup (pa_cons (pv 3) pa_nil))) pss_nil) pss_nil) (pss_cons (ps_if (pt_cmpR op_eq (pv 2) pe_int (nomark _)) (pss_cons (ps_ret (pe_tupRg3 rfl rfl T.n_tuple rfl T.n_range (pa_cons (pe_op op_modN (pe_callTy call_int1 rfl T.n_int (by decide +kernel) (pa_cons (pv 3) pa_nil)) pe_int) (pa_cons (pv 1) (pa_cons pe_int pa_nil))))) pss_nil) pss_nil) (pss_cons (ps_if (pt_cmpR op_eq (pv 2) pe_int (nomark _)) (pss_cons (ps_ret (pe_tupRg rfl rfl T.n_tuple (prg_1 rfl T.n_range (pe_op op_add (pv 3) pe_int)))) pss_nil) pss_nil) (pss_cons (ps_ret (pe_callTy (call_tuple_of : CallR _ (.type "tuple") (rTupOf K)) rfl T.n_tuple (by decide +kernel) (pa_cons (pe_lc (own := [("day", 4)]) rfl sc__law_some.nd (pi_range1 rfl T.n_range (pa_cons (pv 1) pa_nil)) (blkOk_by (N := N__law_some) (sc := defScope s__law_some) (by decide +kernel)) (fun _ _ _ _ _ => pg_name (i := 4) sc__law_some.nd rfl (Or.inl rfl)) (fun _ _ _ _ _ => pts_one (PW.pt (pw_or (pt_cmpR op_eq (pv 4) (pv 3) (nomark _)) (pw_or1 (pt_cmpR op_eq (pe_call (ok__law_draw T) (hr.mono (by decide)) rfl T.g__law_draw T.F__law_draw.kp T.b__law_draw .nil pass0 (pa_cons (pv 0) (pa_cons pe_int pa_nil))) pe_int (nomark _)))))) (fun _ _ _ _ _ => (pv 4))) pa_nil))) pss_nil)))))), ?_⟩
  obtain ⟨n, rfl, hn0, hn1⟩ := hp
  obtain ⟨m, rfl⟩ := Int.eq_ofNat_of_zero_le (show 0 ≤ n by omega)
  have fin : ∀ d, isDays (m : Int) d → someQ [.int (m : Int)] d := fun d h => ⟨m, rfl, h⟩
  show StG K (Wl a b) _ _ [.rt, .dat (.int (m : Int)), .any, .any, .any] _
  refine st_asgG (ev_tup (ea_cons (ev_draw rfl ev_int (by decide) (by decide)) (ea_cons (ev_draw rfl (ev_var rfl) (by omega) (by omega)) ea_nil)) (fun ds h => by obtain ⟨_, _, rfl, _, _, _, rfl, _, rfl⟩ := h; exact sz _ (by show 2 ≤ _; decide))) fun d hd => ?_
  obtain ⟨_, ⟨_, _, rfl, ⟨v, rfl, hv0, hv1⟩, _, _, rfl, ⟨fi, rfl, hf0, hf1⟩, rfl⟩, rfl⟩ := hd
  obtain ⟨f, rfl⟩ := Int.eq_ofNat_of_zero_le hf0
  refine ⟨_, _, eg_tup (egs_cons (eg_name (show 2 < 5 by decide)) (egs_cons (eg_name (show 3 < 5 by decide)) egs_nil)) rfl, ?_⟩
  refine st_ifD (et_testD (ev_opD (ev_var rfl) ev_int rd_eqI)) (fun _ => st_flat (st_retSeq ((ev_tupRg (n := m) (ev_var rfl) (by omega)).imp fun d e => fin _ (by rw [e]; exact ups_days (by omega) (Nat.le_refl m))))) (fun _ => st_nextSeq ?_)
  refine st_ifD (et_testD (ev_opD (ev_var rfl) ev_int rd_eqI)) (fun _ => st_flat (st_retSeq ((ev_tupD (ea_consD (ev_var rfl) ea_nil) (sz _ (by show 1 ≤ _; decide))).imp fun d e => fin _ ?_))) (fun _ => st_nextSeq ?_)
  · rw [e]
    refine ⟨⟨[(f : Int)], rfl, List.pairwise_singleton _ _, fun x hx => ?_, by show (1 : Int) ≤ m; omega⟩, by simp⟩
    rw [List.mem_singleton] at hx
    exact ⟨by omega, by omega⟩
  refine st_ifD (et_testD (ev_opD (ev_var rfl) ev_int rd_eqI)) (fun _ => st_flat (st_retSeq ((ev_tupRg3 (P := isDays (m : Int)) (ea_consD (d := .int ((f % 7 : Nat) : Int)) ((ev_opD (P := (· = .int ((f : Int).fmod 7))) (ev_cbD (ea_consD (ev_var rfl) ea_nil) rc_int1) ev_int (rd_modN (show (7 : Int) ≠ 0 by decide))).imp fun d e => by rw [e, Int.fmod_eq_emod_of_nonneg _ (by decide)]; rfl) (ea_consD (ev_var rfl) (ea_consD ev_int ea_nil))) ?_).imp fun d e => fin _ e))) (fun _ => st_nextSeq ?_)
  · rintro _ rfl
    generalize hj : f % 7 = j
    have hj7 : j < 7 := by omega
    have hjf : j ≤ f := by rw [← hj]; exact Nat.mod_le _ _
    have er : Builtin.Range.rangeSize (j : Int) (m : Int) 7 = (((m - j - 1) / 7 + 1 : Nat) : Int) := by
      unfold Builtin.Range.rangeSize
      rw [if_pos (by decide), if_pos (by omega)]
      omega
    refine ⟨j, m, 7, (m - j - 1) / 7 + 1, rfl, ⟨by decide, by decide, range7n j hj7 m (by omega), er⟩, by omega, ⟨(List.range ((m - j - 1) / 7 + 1)).map fun k => (j : Int) + ((k : Nat) : Int) * 7, ?_, ?_, fun x hx => ?_, by rw [List.length_map, List.length_range]; omega⟩, fun z => ?_⟩
    · rw [List.map_map]
      rfl
    · exact List.Pairwise.map _ (fun a b h => by omega) List.pairwise_lt_range
    · rw [List.mem_map] at hx
      obtain ⟨k, hk, rfl⟩ := hx
      rw [List.mem_range] at hk
      exact ⟨by omega, by omega⟩
    · have z2 : ((List.range ((m - j - 1) / 7 + 1)).map fun k => PyData.int ((j : Int) + ((k : Nat) : Int) * 7)) = [] := by simpa using z
      have := congrArg List.length z2
      rw [List.length_map, List.length_range] at this
      cases this
  refine st_ifD (et_testD (ev_opD (ev_var rfl) ev_int rd_eqI)) (fun _ => st_flat (st_retSeq ((ev_tupRg (n := f + 1) (ev_opD (ev_var rfl) ev_int (rd_I0 fun _ => .int _)) (by omega)).imp fun d e => fin _ (by rw [e]; exact ups_days (by omega) (by omega))))) (fun _ => st_nextSeq ?_)
  refine st_retSeq ((ev_tupOfL (EvF.evB (evf_lc (P := (· = ups 0 m)) (vs := [4]) (fun v hv => by simp at hv; rw [hv]; show 4 < 5; decide) (ei_rng1 (n := (m : Int)) (ea_consD (ev_var rfl) ea_nil) (by omega) (by omega)) (fun ds i acc => ∃ hs : List Int, acc = hs.map .int ∧ hs.Pairwise (· < ·) ∧ (∀ h ∈ hs, 0 ≤ h ∧ h < (i : Int)) ∧ hs.length ≤ i ∧ (f < i → hs ≠ [])) (fun _ _ => ⟨[], rfl, .nil, (fun x h => nomatch h), Nat.zero_le _, fun h => nomatch h⟩) (fun ds e => by rw [e, ups_len]; omega) ?_))).imp ?_)
  · rintro _ i d acc rfl hd ⟨hs, rfl, hpw, hb, hlen, hne⟩
    obtain ⟨hi, rfl⟩ := ups_at.mp hd
    refine ⟨_, [4], fun b => i = f → b = true, _, fun j hj => hj, eg_name (show 4 < 5 by decide), et_or (PT := fun b => b = decide ((0 : Int) + (i : Int) = (f : Int))) (PU := fun b => i = f → b = true) (et_testD (ev_opD (ev_var rfl) (ev_var rfl) rd_eqI)) (fun h => et_test (ev_op (P := anyB) (ev_draw rfl ev_int (by decide) (by decide)) ev_int ?_) (fun d ⟨b, e⟩ => ⟨b, e, fun z => ?_⟩)) (fun _ _ => rfl), fun _ => ⟨ev_var rfl, fun y hy => ⟨hs ++ [(i : Int)], ?_, ?_, ?_, ?_, fun _ => by simp⟩⟩, fun hf => ⟨hs, rfl, hpw, fun h hh => ⟨(hb h hh).1, by have := (hb h hh).2; omega⟩, by omega, fun z => hne (by
      have : i ≠ f := fun q => nomatch hf q
      omega)⟩⟩
    · rintro _ _ ⟨j, rfl, _⟩ rfl
      exact RD.imp rd_eqI fun d e => ⟨_, e⟩
    · have := of_decide_eq_false h.symm
      omega
    · rw [hy, List.map_append]
      simp
    · rw [List.pairwise_append]
      refine ⟨hpw, List.pairwise_singleton _ _, fun x hx y hy => ?_⟩
      rw [List.mem_singleton] at hy
      rw [hy]
      exact (hb x hx).2
    · intro h hh
      rcases List.mem_append.mp hh with hh | hh
      · exact ⟨(hb h hh).1, by have := (hb h hh).2; omega⟩
      · rw [List.mem_singleton] at hh
        exact ⟨by omega, by omega⟩
    · rw [List.length_append]
      simp
      omega
  · rintro _ ⟨_, ⟨_, rfl, hs, rfl, h1, h2, h3, h4⟩, rfl⟩
    rw [ups_len] at h2 h3 h4
    refine fin _ ⟨⟨hs, rfl, h1, h2, by omega⟩, fun z => ?_⟩
    have : hs.map PyData.int = [] := by simpa using z
    exact h4 (by omega) (List.map_eq_nil_iff.mp this)
/-- calls of a train -/
def names5 : List Str := ["abel", "b", "corsenhalden", "dorn", "ez"]
def callD (c : Str × Int) : PyData := .tuple [.str c.1, .int c.2]
def isCalls (d : PyData) : Prop := ∃ cs : List (Str × Int), d = .tuple (cs.map callD) ∧ (∀ c ∈ cs, c.1 ∈ names5 ∧ 0 ≤ c.2 ∧ c.2 < 2500) ∧ cs.Pairwise (fun a b => a.2 < b.2) ∧ cs.length ≤ 4 ∧ cs ≠ []
theorem ok__law_calls : FnOk P w K mg base CX0 3 T.f__law_calls T.fd__law_calls ["well", "most"] (spW K 1 (fun ds => ∃ k : Nat, ds = [.int (k : Int)] ∧ 1 ≤ k ∧ k ≤ 4) (fun _ d => isCalls d)) := by
  refine ok_W T.F__law_calls sc__law_calls fun a b cdv A outer s H E hr ds hl hp => ⟨_, (pss_cons (ps_set (i := 2) sc__law_calls.nd rfl (Or.inl rfl) (pe_lst (pa_cons pe_str (pa_cons pe_str (pa_cons pe_str (pa_cons pe_str (pa_cons pe_str pa_nil))))))) (pss_cons (ps_par (i := 4) (j := 5) rfl sc__law_calls.nd rfl rfl (by decide) rfl rfl (pa_cons (pe_op op_mul pe_int (pe_call (ok__law_draw T) (hr.mono (by decide)) rfl T.g__law_draw T.F__law_draw.kp T.b__law_draw .nil pass0 (pa_cons (pv 0) (pa_cons (pe_call (ok__law_pick T) (hr.mono (by decide)) rfl T.g__law_pick T.F__law_pick.kp T.b__law_pick .nil pass0 (pa_cons (pv 0) (pa_cons (pe_lst (pa_cons pe_int (pa_cons pe_int (pa_cons pe_int pa_nil)))) pa_nil))) pa_nil)))) (pa_cons (pe_lst pa_nil) pa_nil)) rfl) (pss_cons (ps_for PassesOwn.never rfl (pi_range1 rfl T.n_range (pa_cons (pe_op op_add pe_int (pe_call (ok__law_draw T) (hr.mono (by decide)) rfl T.g__law_draw T.F__law_draw.kp T.b__law_draw .nil pass0 (pa_cons (pv 0) (pa_cons (pv 1) pa_nil)))) pa_nil)) (pg_name (i := 3) sc__law_calls.nd rfl (Or.inl rfl)) (pss_cons (ps_expr (pe_bm PySem.F.plainAttrs_list PySem.F.slot_list_append PySem.F.type_list_append mt_append (pv 5) (pa_cons (pe_tup (pa_cons (pe_call (ok__law_pick T) (hr.mono (by decide)) rfl T.g__law_pick T.F__law_pick.kp T.b__law_pick .nil pass0 (pa_cons (pv 0) (pa_cons (pv 2) pa_nil))) (pa_cons (pv 4) pa_nil))) pa_nil))) (pss_cons (ps_set (i := 4) sc__law_calls.nd rfl (Or.inl rfl) (pe_op op_add (pv 4) (pe_call (ok__law_pick T) (hr.mono (by decide)) rfl T.g__law_pick T.F__law_pick.kp T.b__law_pick .nil pass0 (pa_cons (pv 0) (pa_cons (pe_lst (pa_cons pe_int (pa_cons pe_int (pa_cons pe_int (pa_cons pe_int (pa_cons pe_int (pa_cons (pe_op op_add pe_int (pe_call (ok__law_draw T) (hr.mono (by decide)) rfl T.g__law_draw T.F__law_draw.kp T.b__law_draw .nil pass0 (pa_cons (pv 0) (pa_cons pe_int pa_nil)))) pa_nil))))))) pa_nil))))) pss_nil))) (pss_cons (ps_ret (pe_callTy (call_tuple_of : CallR _ (.type "tuple") (rTupOf K)) rfl T.n_tuple (by decide +kernel) (pa_cons (pv 5) pa_nil))) pss_nil)))), ?_⟩
  obtain ⟨kk, rfl, hk1, hk4⟩ := hp
  show StG K (Wl a b) _ _ [.rt, .dat (.int (kk : Int)), .any, .any, .any, .any] _
  let isName : PyData → Prop := fun d => ∃ z : Str, d = .str z ∧ z ∈ names5
  have nm : ∀ z : Str, z ∈ names5 → ∀ ρ, EvN K (Wl a b) (tC (.str z)) ρ isName := fun z hz ρ => ev_str.imp fun d e => ⟨z, e, hz⟩
  have szz := sizeLine_eq
  refine st_set (P := fun d => ∃ ds, Alls isName 5 ds ∧ d = .list ds) (show 2 < 6 by decide) (EvF.ev (evf_lst (ea_consA (nm _ (by simp [names5]) _) (ea_consA (nm _ (by simp [names5]) _) (ea_consA (nm _ (by simp [names5]) _) (ea_consA (nm _ (by simp [names5]) _) (ea_consA (nm _ (by simp [names5]) _) ea_nilA))))) (fun ds h => by rw [h.1]; omega))) fun d2 hd2 => ?_
  have i9 : ∀ (ρ : List Sk) (k : Int), 9 ≤ k → k < 141 → EvN K (Wl a b) (tC (.int k)) ρ (isI 9 141) := fun ρ k h0 h1 => ev_isI ev_int h0 h1
  refine st_parF (P1 := isI 0 1400) (PL := fun ds => ds = []) (show 4 < 6 by decide) (show 5 < 6 by decide) (ev_op (P1 := (· = .int 10)) (P2 := isI 0 140) ev_int (EvN.imp (ev_callW (PA := fun ds => ∃ k : Int, ds = [.int k] ∧ 0 < k ∧ k < 141) rfl (EvA.imp (ea_cons (ev_pick (n := 3) rfl (EvF.ev (evf_lst (ea_consA (i9 _ _ (by decide) (by decide)) (ea_consA (i9 _ _ (by decide) (by decide)) (ea_consA (i9 _ _ (by decide) (by decide)) ea_nilA))) (fun ds h => by rw [h.1]; omega))) (by decide) (by decide)) ea_nil) ?_) ?_) ?_) ?_) (evf_lst ea_nil (by rintro _ rfl; exact Nat.zero_le _)) fun d4 ds hd4 hds => ?_
  · rintro _ ⟨_, _, rfl, ⟨k, rfl, h0, h1⟩, rfl⟩
    exact ⟨k, rfl, by omega, h1⟩
  · rintro _ ⟨k, rfl, h0, h1⟩
    exact ⟨rfl, k, rfl, h0, by omega⟩
  · rintro d ⟨_, ⟨k, rfl, h0, h1⟩, k', e, i, rfl, h2, h3⟩
    cases e
    exact ⟨i, rfl, h2, by omega⟩
  · rintro _ _ rfl ⟨i, rfl, h0, h1⟩
    exact (rd_mulL ⟨by decide, by decide⟩).imp fun d e => ⟨_, e, by omega, by omega⟩
  subst hds
  obtain ⟨m0, rfl, hm0, hm1⟩ := hd4
  refine st_for (ei_rngN (lo := 1) (hi := (kk : Int) + 1) (ev_opI2 (PI := fun i => i = 1) (PJ := fun j => 0 ≤ j ∧ j < (kk : Int)) (Pr := fun i => 1 ≤ i ∧ i < (kk : Int) + 1) (ev_int.imp fun d e => ⟨1, e, rfl⟩) (ev_draw rfl (ev_var rfl) (by omega) (by omega)) (fun i j h1 h2 => ⟨by omega, by omega⟩)) (by decide) (by omega))
    (fun ds i ρ => ∃ (s3 : Sk) (m : Int) (cs : List (Str × Int)), ρ = [.rt, .dat (.int (kk : Int)), .dat d2, s3, .dat (.int m), .own (cs.map callD)] ∧ 0 ≤ m ∧ m < 1400 + 300 * (i : Int) ∧ (∀ c ∈ cs, c.1 ∈ names5 ∧ 0 ≤ c.2 ∧ c.2 < 2500 ∧ c.2 < m) ∧ cs.Pairwise (fun a b => a.2 < b.2) ∧ cs.length = i) (fun ρ => ∃ (s3 : Sk) (m : Int) (cs : List (Str × Int)), ρ = [.rt, .dat (.int (kk : Int)), .dat d2, s3, .dat (.int m), .own (cs.map callD)] ∧ isCalls (.tuple (cs.map callD))) (fun _ _ => ⟨_, m0, [], rfl, hm0, by omega, (fun c h => nomatch h), .nil, rfl⟩) ?_ ?_ ?_
  · rintro _ i d ρ1 ⟨n, rfl, hn0, hn1⟩ hd ⟨s3, m, cs, rfl, h0, h1, h2, hpw, h3⟩
    obtain ⟨hi, rfl⟩ := ups_at.mp hd
    refine ⟨_, _, eg_name (show 3 < 6 by decide), ?_⟩
    refine st_append (ds := cs.map callD) rfl (by rw [List.length_map]; omega) (fun l x xs H Q h0 h1 h2 => ⟨l, xs, x, rfl, rfl, h0, h1, h2⟩) (P := fun d => ∃ z : Str, d = callD (z, m) ∧ z ∈ names5) (EvN.imp (ev_tup (ea_cons (ev_pick (n := 5) rfl ((ev_var rfl).imp fun d e => by rw [e]; exact hd2) (by decide) (by decide)) (ea_cons (ev_var rfl) ea_nil)) (fun ds h => by obtain ⟨_, _, rfl, _, _, _, rfl, _, rfl⟩ := h; exact sz _ (by show 2 ≤ _; decide))) ?_) fun c hc => ?_
    · rintro d ⟨_, ⟨z, _, rfl, hz, _, _, rfl, rfl, rfl⟩, rfl⟩
      obtain ⟨y, rfl, hy⟩ := hz
      exact ⟨y, rfl, hy⟩
    obtain ⟨z, rfl, hz⟩ := hc
    have k9 : ∀ (ρ : List Sk) (k : Int), 1 ≤ k → k < 231 → EvN K (Wl a b) (tC (.int k)) ρ (isI 1 231) := fun ρ k h0 h1 => ev_isI ev_int h0 h1
    refine st_set (P := isI (m + 1) (1400 + 300 * ((i : Int) + 1))) (show 4 < 6 by decide) (EvN.imp (ev_opI2 (PI := fun j => j = m) (PJ := fun j => 1 ≤ j ∧ j < 231) (Pr := fun j => m + 1 ≤ j ∧ j < 1400 + 300 * ((i : Int) + 1)) ((ev_var rfl).imp fun d e => ⟨m, e, rfl⟩)
      (ev_pick (n := 6) rfl (EvF.ev (evf_lst (ea_consA (k9 _ _ (by decide) (by decide)) (ea_consA (k9 _ _ (by decide) (by decide)) (ea_consA (k9 _ _ (by decide) (by decide)) (ea_consA (k9 _ _ (by decide) (by decide)) (ea_consA (k9 _ _ (by decide) (by decide)) (ea_consA (ev_opI2 (PI := fun j => j = 30) (PJ := fun j => 0 ≤ j ∧ j < 200) (Pr := fun j => 1 ≤ j ∧ j < 231) (ev_int.imp fun d e => ⟨30, e, rfl⟩) (ev_draw rfl ev_int (by decide) (by decide)) (fun x y h1 h2 => ⟨by omega, by omega⟩)) ea_nilA))))))
        (fun ds h => by rw [h.1]; omega))) (by decide) (by decide)) (fun x y h1 h2 => ⟨by omega, by omega⟩)) fun d h => h) fun d4 hd4 => ?_
    obtain ⟨m', rfl, h5, h6⟩ := hd4
    refine st_next ⟨_, m', cs ++ [(z, m)], by rw [List.map_append]; rfl, by omega, by omega, fun x hx => ?_, ?_, by rw [List.length_append, h3]; rfl⟩
    · rcases List.mem_append.mp hx with hx | hx
      · obtain ⟨q1, q2, q3, q4⟩ := h2 x hx
        exact ⟨q1, q2, q3, by omega⟩
      · rw [List.mem_singleton] at hx
        rw [hx]
        exact ⟨hz, h0, by show m < 2500; omega, by show m < m'; omega⟩
    · rw [List.pairwise_append]
      refine ⟨hpw, List.pairwise_singleton _ _, fun x hx y hy => ?_⟩
      rw [List.mem_singleton] at hy
      rw [hy]
      exact (h2 x hx).2.2.2
  · rintro _ ρ' ⟨n, rfl, hn0, hn1⟩ ⟨s3, m, cs, e, _, _, h2, hpw, h3⟩
    rw [ups_len] at h3
    refine ⟨s3, m, cs, e, cs, rfl, fun c hc => ?_, hpw, by omega, fun z => ?_⟩
    · obtain ⟨q1, q2, q3, q4⟩ := h2 c hc
      exact ⟨q1, q2, q3⟩
    · subst z
      have : (0 : Nat) = n := h3
      omega
  · rintro _ ⟨s3, m, cs, rfl, h2⟩
    exact st_retSeq ((ev_tupOfLD (evb_own rfl)).imp fun d e => by rw [e]; exact h2)
/-- trains that rise, up to a number -/
def isTrains (n : Int) (ts : List PyData) (m : Int) : Prop := ∀ (i : Nat) (t : PyData), ts[i]? = some t → ∃ (k : Int) (ds cs : PyData), t = .tuple [.int k, ds, cs] ∧ isDays n ds ∧ isCalls cs ∧ leastOf ts i ≤ k ∧ 1 ≤ k ∧ k ≤ m
theorem isTrains.snoc {n m k : Int} {ts : List PyData} {ds cs : PyData} (h : isTrains n ts m) (hd : isDays n ds) (hc : isCalls cs) (hk : m < k) (h0 : 0 ≤ m) : isTrains n (ts ++ [.tuple [.int k, ds, cs]]) k := fun i t ht => by
  rcases Nat.lt_trichotomy i ts.length with hi | hi | hi
  · rw [List.getElem?_append_left hi] at ht
    obtain ⟨j, d2, c2, e, q1, q2, q3, q4, q5⟩ := h i t ht
    refine ⟨j, d2, c2, e, q1, q2, ?_, q4, by omega⟩
    unfold leastOf at q3 ⊢
    rw [List.getElem?_append_left (by omega)]
    exact q3
  · subst hi
    rw [List.getElem?_concat_length] at ht
    cases ht
    refine ⟨k, ds, cs, rfl, hd, hc, ?_, by omega, Int.le_refl k⟩
    unfold leastOf
    split
    · rename_i h1
      have hl : ts.length - 1 < ts.length := by omega
      rw [List.getElem?_append_left hl, List.getElem?_eq_getElem hl]
      obtain ⟨j, d2, c2, e, _, _, _, _, q5⟩ := h (ts.length - 1) _ (List.getElem?_eq_getElem hl)
      rw [e]
      show j + 1 ≤ k
      omega
    · omega
  · rw [List.getElem?_eq_none (by rw [List.length_append]; show ts.length + 1 ≤ i; omega)] at ht
    cases ht
def isPlan (k : Nat) (d : PyData) : Prop := ∃ (c : PyData) (n m : Int) (ts : List PyData), d = .tuple [c, .tuple ts] ∧ isCal c n ∧ isTrains n ts m ∧ ts.length ≤ k ∧ 0 ≤ m ∧ m ≤ 400 * (k : Int)
theorem ok__law_plan : FnOk P w K mg base CX0 4 T.f__law_plan T.fd__law_plan ["well", "many", "most"] (spW K 2 (fun ds => ∃ k : Nat, ds = [.int (k : Int), .int 3] ∧ k ≤ 7) (fun ds d => ∀ k : Nat, ds = [.int (k : Int), .int 3] → isPlan k d)) := by
  refine ok_W T.F__law_plan sc__law_plan fun a b cdv A outer s H E hr ds hl hp => ⟨_, (pss_cons (ps_par3 (i := 4) (j := 5) (l := 6) rfl sc__law_plan.nd rfl rfl rfl (by decide) (by decide) (by decide) rfl rfl rfl (pa_cons (pe_call (ok__law_calendar T) (hr.mono (by decide)) rfl T.g__law_calendar T.F__law_calendar.kp T.b__law_calendar .nil pass0 (pa_cons (pv 0) (pa_cons pe_int pa_nil))) (pa_cons pe_int (pa_cons (pe_lst pa_nil) pa_nil))) rfl) (pss_cons (ps_for PassesOwn.never rfl (pi_range1 rfl T.n_range (pa_cons (pe_call (ok__law_draw T) (hr.mono (by decide)) rfl T.g__law_draw T.F__law_draw.kp T.b__law_draw .nil pass0 (pa_cons (pv 0) (pa_cons (pe_op op_add (pv 1) pe_int) pa_nil))) pa_nil)) (pg_name (i := 3) sc__law_plan.nd rfl (Or.inl rfl)) (pss_cons (ps_set (i := 5) sc__law_plan.nd rfl (Or.inl rfl) (pe_op op_add (pv 5) (pe_call (ok__law_pick T) (hr.mono (by decide)) rfl T.g__law_pick T.F__law_pick.kp T.b__law_pick .nil pass0 (pa_cons (pv 0) (pa_cons (pe_lst (pa_cons pe_int (pa_cons pe_int (pa_cons pe_int (pa_cons pe_int (pa_cons pe_int (pa_cons pe_int pa_nil))))))) pa_nil))))) (pss_cons (ps_expr (pe_bm PySem.F.plainAttrs_list PySem.F.slot_list_append PySem.F.type_list_append mt_append (pv 6) (pa_cons (pe_tup (pa_cons (pv 5) (pa_cons (pe_call (ok__law_some T) (hr.mono (by decide)) rfl T.g__law_some T.F__law_some.kp T.b__law_some .nil pass0 (pa_cons (pv 0) (pa_cons (pe_ix ix_tup (pv 4) pe_int (fun _ _ => rfl)) pa_nil))) (pa_cons (pe_call (ok__law_calls T) (hr.mono (by decide)) rfl T.g__law_calls T.F__law_calls.kp T.b__law_calls .nil pass0 (pa_cons (pv 0) (pa_cons (pv 2) pa_nil))) pa_nil)))) pa_nil))) pss_nil))) (pss_cons (ps_ret (pe_tup (pa_cons (pv 4) (pa_cons (pe_callTy (call_tuple_of : CallR _ (.type "tuple") (rTupOf K)) rfl T.n_tuple (by decide +kernel) (pa_cons (pv 6) pa_nil)) pa_nil)))) pss_nil))), ?_⟩
  obtain ⟨k, rfl, hk7⟩ := hp
  show StG K (Wl a b) _ _ [.rt, .dat (.int (k : Int)), .dat (.int 3), .any, .any, .any, .any] _
  have szz := sizeLine_eq
  refine st_par3F (P1 := fun d => ∃ n, isCal d n) (P2 := (· = .int 0)) (PL := fun ds => ds = []) (show 4 < 7 by decide) (show 5 < 7 by decide) (show 6 < 7 by decide) (ev_callWD rfl (ea_consD ev_int ea_nil) rfl rfl fun d q => q) ev_int (evf_lst ea_nil (by rintro _ rfl; exact Nat.zero_le _)) fun d4 d5 ds hd4 hd5 hds => ?_
  subst hds
  subst hd5
  obtain ⟨n, hcal⟩ := hd4
  obtain ⟨f, hs, e4, hf0, hf1, hn0, hn1, hhs⟩ := id hcal
  subst e4
  refine st_for (ei_rngN (lo := 0) (hi := (k : Int) + 1) (ev_draw rfl (ev_opD (P := (· = .int ((k : Int) + 1))) (ev_var rfl) ev_int (rd_I0 fun _ => .int _)) (by omega) (by omega)) (by decide) (by omega))
    (fun ds i ρ => ∃ (s3 : Sk) (m : Int) (ts : List PyData), ρ = [.rt, .dat (.int (k : Int)), .dat (.int 3), s3, .dat (.tuple [.int f, .int n, hs]), .dat (.int m), .own ts] ∧ 0 ≤ m ∧ m ≤ 400 * (i : Int) ∧ isTrains n ts m ∧ ts.length = i) (fun ρ => ∃ (s3 : Sk) (m : Int) (ts : List PyData), ρ = [.rt, .dat (.int (k : Int)), .dat (.int 3), s3, .dat (.tuple [.int f, .int n, hs]), .dat (.int m), .own ts] ∧ 0 ≤ m ∧ m ≤ 400 * (k : Int) ∧ isTrains n ts m ∧ ts.length ≤ k) (fun _ _ => ⟨_, 0, [], rfl, by omega, by omega, (fun i t h => nomatch h), rfl⟩) ?_ ?_ ?_
  · rintro _ i d ρ1 ⟨nn, rfl, hn0', hn1'⟩ hd ⟨s3, m, ts, rfl, h0, h1, h2, h4⟩
    obtain ⟨hi, rfl⟩ := ups_at.mp hd
    refine ⟨_, _, eg_name (show 3 < 7 by decide), ?_⟩
    have k9 : ∀ (ρ : List Sk) (k : Int), 1 ≤ k → k < 401 → EvN K (Wl a b) (tC (.int k)) ρ (isI 1 401) := fun ρ k h0 h1 => ev_isI ev_int h0 h1
    refine st_set (P := fun d => ∃ i, d = .int i ∧ (m < i ∧ i ≤ m + 400)) (show 5 < 7 by decide) (ev_opI2 (PI := fun j => j = m) (PJ := fun j => 1 ≤ j ∧ j < 401) ((ev_var rfl).imp fun d e => ⟨m, e, rfl⟩)
      (ev_pick (n := 6) rfl (EvF.ev (evf_lst (ea_consA (k9 _ _ (by decide) (by decide)) (ea_consA (k9 _ _ (by decide) (by decide)) (ea_consA (k9 _ _ (by decide) (by decide)) (ea_consA (k9 _ _ (by decide) (by decide)) (ea_consA (k9 _ _ (by decide) (by decide)) (ea_consA (k9 _ _ (by decide) (by decide)) ea_nilA))))))
        (fun ds h => by rw [h.1]; omega))) (by decide) (by decide)) (fun x y h1 h2 => ⟨by omega, by omega⟩)) fun d4 hd4 => ?_
    obtain ⟨m', rfl, h5, h6⟩ := hd4
    refine st_append (ds := ts) rfl (by omega) (fun l x xs H Q h0 h1 h2 => ⟨l, xs, x, rfl, rfl, h0, h1, h2⟩) (P := fun d => ∃ dd cc, d = .tuple [.int m', dd, cc] ∧ isDays n dd ∧ isCalls cc) (EvN.imp (ev_tup (ea_cons (ev_var rfl) (ea_cons (P := isDays n) (ev_callWD rfl (ea_consD (ev_opD (ev_var rfl) ev_int (rd_ixT (d := .int n) rfl)) ea_nil) rfl ⟨n, rfl, hn0, hn1⟩ fun d ⟨n', e, q⟩ => by cases e; exact q) (ea_cons (P := isCalls) (ev_callWD rfl (ea_consD (ev_var rfl) ea_nil) rfl ⟨3, rfl, by decide, by decide⟩ fun d q => q) ea_nil))) (fun ds h => by obtain ⟨_, _, rfl, _, _, _, rfl, _, _, _, rfl, _, rfl⟩ := h; exact sz _ (by show 3 ≤ _; decide))) ?_) fun c hc => ?_
    · rintro d ⟨_, ⟨_, _, rfl, rfl, dd, _, rfl, q1, cc, _, rfl, q3, rfl⟩, rfl⟩
      exact ⟨dd, cc, rfl, q1, q3⟩
    obtain ⟨dd, cc, rfl, q1, q3⟩ := hc
    exact st_next ⟨_, m', ts ++ [_], rfl, by omega, by omega, h2.snoc q1 q3 h5 h0, by rw [List.length_append, h4]; rfl⟩
  · rintro _ ρ' ⟨nn, rfl, hn0', hn1'⟩ ⟨s3, m, ts, e, h0, h1, h2, h4⟩
    rw [ups_len] at h1 h4
    exact ⟨s3, m, ts, e, h0, by omega, h2, by omega⟩
  · rintro _ ⟨s3, m, ts, rfl, h0, h1, h2, h4⟩
    refine st_retSeq (EvN.imp (ev_tup (ea_cons (ev_var rfl) (ea_cons (ev_tupOfLD (evb_own rfl)) ea_nil)) (fun ds h => by obtain ⟨_, _, rfl, _, _, _, rfl, _, rfl⟩ := h; exact sz _ (by show 2 ≤ _; decide))) ?_)
    rintro d ⟨_, ⟨_, _, rfl, rfl, _, _, rfl, rfl, rfl⟩, rfl⟩ k2 e
    have : (k : Int) = (k2 : Int) := by simpa using e
    obtain rfl : k = k2 := by omega
    exact ⟨_, n, m, ts, rfl, hcal, h2, h4, h0, h1⟩

end
end K07

namespace K07
open PySem PySem.Spec PyProof.Rows L2 Dl
section
variable {P : Program} {w : World} {K : PySem.W.Frag} {mg : Str → Option Value} {base : Heap} (T : Txt K mg)
theorem asc_pw : ∀ {ns : List Int}, ns.Pairwise (· < ·) → asc ns = true
  | [], _ => rfl
  | [a], _ => rfl
  | a :: b :: r, h => by
    rw [List.pairwise_cons] at h
    have ih := asc_pw h.2
    have h1 := h.1 b List.mem_cons_self
    show (ascL (a :: b :: r)).all id = true
    have e : ascL (a :: b :: r) = decide (a < b) :: ascL (b :: r) := rfl
    rw [e, List.all_cons, decide_eq_true h1]
    exact ih
theorem map_toI (hs : List Int) : (hs.map PyData.int).map toI = hs := by
  rw [List.map_map]
  exact List.map_id hs
theorem hol_right {n : Int} {d : PyData} (h : isHol n d) : daysB n d = true := by
  obtain ⟨hs, rfl, h1, h2, _⟩ := h
  show ((hs.map PyData.int).all (wi 0 (n - 1)) && asc ((hs.map PyData.int).map toI)) = true
  rw [map_toI, asc_pw h1, Bool.and_true, List.all_eq_true]
  intro x hx
  obtain ⟨k, hk, rfl⟩ := List.mem_map.mp hx
  have := h2 k hk
  show (decide (0 ≤ k) && decide (k ≤ n - 1)) = true
  rw [decide_eq_true (by omega), decide_eq_true (by omega)]
  rfl
theorem days_right {n : Int} {d : PyData} (h : isDays n d) : (daysB n d && !isNil d) = true := by
  rw [hol_right h.1]
  obtain ⟨⟨hs, rfl, _⟩, h2⟩ := h
  cases hs with
  | nil => exact absurd rfl h2
  | cons a r => rfl
theorem name_right : ∀ z ∈ names5, nameB (.str z) = true := by
  intro z hz
  simp only [names5, List.mem_cons, List.not_mem_nil, or_false] at hz
  rcases hz with rfl | rfl | rfl | rfl | rfl <;> decide +kernel
theorem calls_right {p : Int} {d : PyData} (h : isCalls d) : callsE p d = .none := by
  obtain ⟨cs, rfl, h1, h2, h3, h4⟩ := h
  have hb : (List.range (cs.map callD).length).find? (badCall (cs.map callD)) = none := List.find?_eq_none.mpr fun i hi => by
    have hi := List.mem_range.mp hi
    rw [List.length_map] at hi
    unfold badCall
    rw [List.getElem?_map, List.getElem?_eq_getElem hi]
    obtain ⟨q1, q2, q3⟩ := h1 _ (List.getElem_mem hi)
    show ¬ (!callB (callD cs[i])) = true
    have : callB (callD cs[i]) = true := by
      show (nameB (.str cs[i].1) && wi 0 2879 (.int cs[i].2)) = true
      rw [name_right _ q1]
      show (true && (decide (0 ≤ cs[i].2) && decide (cs[i].2 ≤ 2879))) = true
      rw [decide_eq_true (by omega), decide_eq_true (by omega)]
      rfl
    rw [this]
    decide
  have hr : (List.range (cs.map callD).length).find? (fun i => decide (0 < i) && noRise (cs.map callD) i) = none := List.find?_eq_none.mpr fun i hi => by
    have hi := List.mem_range.mp hi
    rw [List.length_map] at hi
    by_cases h0 : 0 < i
    · unfold noRise
      have hi1 : i - 1 < cs.length := by omega
      rw [List.getElem?_map, List.getElem?_map, List.getElem?_eq_getElem hi, List.getElem?_eq_getElem hi1]
      have := List.pairwise_iff_getElem.mp h2 (i - 1) i hi1 hi (by omega)
      show ¬ (decide (0 < i) && decide (minOf (callD cs[i]) ≤ minOf (callD cs[i - 1]))) = true
      have e : ¬ (minOf (callD cs[i]) ≤ minOf (callD cs[i - 1])) := by
        show ¬ (cs[i].2 ≤ cs[i - 1].2)
        omega
      rw [decide_eq_false e, Bool.and_false]
      decide
    · rw [decide_eq_false h0, Bool.false_and]
      decide
  cases cs with
  | nil => exact absurd rfl h4
  | cons a r =>
    show (match (List.range ((a :: r).map callD).length).find? (badCall ((a :: r).map callD)) with
      | some i => PyData.tuple [.str "call", .int p, .int (i : Int)]
      | none => match (List.range ((a :: r).map callD).length).find? (fun i => decide (0 < i) && noRise ((a :: r).map callD) i) with
        | some i => .tuple [.str "rise", .int p, .int (i : Int)]
        | none => .none) = .none
    rw [hb, hr]
theorem isCal.right {c : PyData} {n : Int} (h : isCal c n) : calB c = true ∧ ∃ f hs, c = .tuple [f, .int n, hs] := by
  obtain ⟨f, hs, rfl, h0, h1, h2, h3, h4⟩ := h
  refine ⟨?_, _, _, rfl⟩
  show (wi 0 6 (.int f) && (wi 1 400 (.int n) && daysB (toI (.int n)) hs)) = true
  rw [show toI (.int n) = n from rfl, hol_right h4]
  show ((decide (0 ≤ f) && decide (f ≤ 6)) && ((decide (1 ≤ n) && decide (n ≤ 400)) && true)) = true
  rw [decide_eq_true (by omega), decide_eq_true (by omega), decide_eq_true (by omega), decide_eq_true (by omega)]
  rfl
theorem once_nd : ∀ {n : Nat} {ks : List Str}, ks.length = n → (once ks).Nodup ∧ ∀ z ∈ once ks, z ∈ ks
  | 0, ks, h => by
    have : ks = [] := List.length_eq_zero_iff.mp h
    subst this
    exact ⟨List.nodup_nil, fun z hz => nomatch hz⟩
  | n + 1, ks, h => by
    rcases List.eq_nil_or_concat ks with rfl | ⟨ls, k, rfl⟩
    · cases h
    · rw [List.concat_eq_append] at h ⊢
      have hl : ls.length = n := by
        rw [List.length_append] at h
        simpa using h
      obtain ⟨h1, h2⟩ := once_nd hl
      rw [once_snoc]
      split
      · exact ⟨h1, fun z hz => List.mem_append.mpr (Or.inl (h2 z hz))⟩
      · rename_i hk
        refine ⟨?_, fun z hz => ?_⟩
        · rw [List.nodup_append]
          exact ⟨h1, by simp, fun a ha b hb z => hk (by rw [List.mem_singleton] at hb; rw [← hb, ← z]; exact ha)⟩
        · rcases List.mem_append.mp hz with hz | hz
          · exact List.mem_append.mpr (Or.inl (h2 z hz))
          · exact List.mem_append.mpr (Or.inr hz)
theorem nd_len {α : Type} [DecidableEq α] : ∀ {l m : List α}, l.Nodup → (∀ x ∈ l, x ∈ m) → l.length ≤ m.length
  | [], _, _, _ => Nat.zero_le _
  | x :: l, m, hn, h => by
    rw [List.nodup_cons] at hn
    have hx : x ∈ m := h x List.mem_cons_self
    have h1 := nd_len (l := l) (m := m.erase x) hn.2 fun y hy => by
      have hy2 := h y (List.mem_cons_of_mem _ hy)
      have hne : y ≠ x := fun e => hn.1 (by rw [← e]; exact hy)
      exact (List.mem_erase_of_ne hne).mpr hy2
    rw [List.length_erase_of_mem hx] at h1
    have : 0 < m.length := List.length_pos_of_mem hx
    rw [List.length_cons]
    omega
theorem plan_right {k : Nat} {d : PyData} (h : isPlan k d) (hk : k ≤ 7) : planE d = .none := by
  obtain ⟨c, n, m, ts, rfl, hc, ht, hl, hm0, hm1⟩ := h
  obtain ⟨hb, f, hs, rfl⟩ := hc.right
  rw [planE_right hb]
  dsimp only
  rw [if_neg (by omega), show toI (PyData.int n) = n from rfl]
  have gone : firstE n ts = none := by
    rcases firstE_is (l := n) (ts := ts) with h | ⟨i, hi, h⟩
    · exact h
    · exfalso
      unfold firstE at h
      cases hf : (List.range ts.length).find? fun i => !isNone (errAt n ts i) with
      | none => rw [hf] at h; cases h
      | some j =>
        have hj := List.mem_range.mp (List.mem_of_find?_eq_some hf)
        have hbad := List.find?_some hf
        obtain ⟨q, ds, cs, e, q1, q2, q3, q4, q5⟩ := ht j _ (List.getElem?_eq_getElem hj)
        have : errAt n ts j = .none := by
          unfold errAt
          rw [List.getElem?_eq_getElem hj, e]
          show trainE n (leastOf ts j) j (.tuple [.int q, ds, cs]) = .none
          unfold trainE
          dsimp only
          rw [if_pos (by
            show (decide (leastOf ts j ≤ q) && decide (q ≤ 9999)) = true
            rw [decide_eq_true q3, decide_eq_true (by omega)]
            rfl), if_pos (days_right q1), calls_right q2]
        rw [this] at hbad
        cases hbad
  rw [gone, Option.getD_none]
  have cl : ∀ t ∈ ts, (callsOf t).length ≤ 4 ∧ ∀ c ∈ callsOf t, nmOf c ∈ names5 := fun t hm => by
    obtain ⟨i, hi⟩ := List.getElem?_of_mem hm
    obtain ⟨q, ds, cs, rfl, q1, ⟨ls, rfl, l1, l2, l3, l4⟩, q3, q4, q5⟩ := ht i t hi
    show (ls.map callD).length ≤ 4 ∧ ∀ c ∈ ls.map callD, nmOf c ∈ names5
    rw [List.length_map]
    refine ⟨l3, fun c hc => ?_⟩
    obtain ⟨x, hx, rfl⟩ := List.mem_map.mp hc
    exact (l1 x hx).1
  have hlen : (namesOf ts).length ≤ 28 := by
    unfold namesOf
    have := flat_le (f := fun t => (callsOf t).map nmOf) (k := 4) (ts := ts) fun t hm => by
      rw [List.length_map]
      exact (cl t hm).1
    omega
  have h5 : (once (namesOf ts)).length ≤ 5 := by
    obtain ⟨h1, h2⟩ := once_nd (ks := namesOf ts) rfl
    refine nd_len (m := names5) h1 fun z hz => ?_
    have hz := h2 z hz
    unfold namesOf at hz
    obtain ⟨t, hm, hz⟩ := List.mem_flatMap.mp hz
    obtain ⟨c, hc, rfl⟩ := List.mem_map.mp hz
    exact (cl t hm).2 c hc
  unfold countE
  rw [if_neg (by omega), if_neg (by omega)]
theorem names_sc : ∀ z ∈ names5, Sc (.str z) := by
  intro z hz
  simp only [names5, List.mem_cons, List.not_mem_nil, or_false] at hz
  rcases hz with rfl | rfl | rfl | rfl | rfl <;> exact sc_w (by decide +kernel)
theorem isCalls.gl {d : PyData} {b : Bool} (h : isCalls d) : Gl 2 b d := by
  obtain ⟨cs, rfl, h1, h2, h3, h4⟩ := h
  refine .tup (by rw [List.length_map]; show cs.length ≤ 4; omega) fun x hx => ?_
  obtain ⟨c, hc, rfl⟩ := List.mem_map.mp hx
  obtain ⟨q1, q2, q3⟩ := h1 c hc
  exact .pair (.sc (names_sc _ q1)) (.sc (sc_int (by omega) (by omega)))
theorem isTrains.gl {n m : Int} {ts : List PyData} {b : Bool} (h : isTrains n ts m) (hn : n ≤ 30) (hm : m ≤ 3000) : ∀ t ∈ ts, Gl 3 b t := fun t ht => by
  obtain ⟨i, hi⟩ := List.getElem?_of_mem ht
  obtain ⟨q, ds, cs, rfl, q1, q2, q3, q4, q5⟩ := h i t hi
  exact .trip (.sc (sc_int (by omega) (by omega))) ((q1.1.gl hn).up) q2.gl
theorem isPlan.gl {k : Nat} {d : PyData} {b : Bool} (h : isPlan k d) (hk : k ≤ 7) : Gl 6 b d := by
  obtain ⟨c, n, m, ts, rfl, hc, ht, hl, hm0, hm1⟩ := h
  have hn : n ≤ 30 := by
    obtain ⟨_, _, _, _, _, _, h, _⟩ := hc
    exact h
  exact .pair (hc.gl.le (by decide)) (.tup (by show ts.length ≤ 8; omega) fun t hm => (ht.gl hn (by omega) t hm).up)

end
end K07

namespace K07
open PySem PySem.Spec PyProof.Rows L2 Dl
section
variable {P : Program} {w : World} {K : PySem.W.Frag} {mg : Str → Option Value} {base : Heap} (T : Txt K mg)
/-- a train in form -/
def wholeI (t : PyData) : Prop := ∃ (n : Int) (d : PyData) (cs : List PyData), t = .tuple [.int n, d, .tuple cs] ∧ ∀ c ∈ cs, ∃ (z : Str) (m : Int), c = .tuple [.str z, .int m]
def soP (ds : List PyData) : Prop := ∃ (c : PyData) (ts : List PyData), ds = [.tuple [c, .tuple ts]] ∧ (∀ t ∈ ts, wholeI t) ∧ (namesOf ts).length ≤ 900
def soQ (ds : List PyData) (d : PyData) : Prop := ∀ (c : PyData) (ts : List PyData), ds = [.tuple [c, .tuple ts]] → ∃ ns : List Str, d = .tuple (ns.map .str) ∧ StrU ns ∧ ns.length ≤ (namesOf ts).length ∧ ∀ k, k ∈ ns ↔ k ∈ namesOf ts
theorem ok_stations_of : FnOk P w K mg base CX0 3 T.f_stations_of T.fd_stations_of ["plan"] (spN K 1 soP soQ) := by
  refine ok_N T.F_stations_of sc_stations_of fun cdv A outer s H E hr ds hl hp => ⟨_, (pss_cons (ps_ret (pe_callTy (call_tuple_of : CallR _ (.type "tuple") (rTupOf K)) rfl T.n_tuple (by decide +kernel) (pa_cons (pe_callB (cr_sortedS rfl) rfl T.n_sorted (by decide +kernel) (pa_cons (DlS.pe_sc2 (own := [("train", 1), ("call", 2)]) (vs1 := [2]) rfl sc_stations_of.nd (pi_tup (pe_ix ix_tup (pv 0) pe_int (fun _ _ => rfl))) (blkOk_by (N := N_stations_of) (sc := defScope s_stations_of) (by decide +kernel)) (by decide) (fun _ _ _ _ _ => pg_name (i := 1) sc_stations_of.nd rfl (Or.inl rfl)) (fun _ _ _ _ _ => pts_nil) (fun _ _ _ _ _ => (pi_tup (pe_ix (ix_tup : IxR _ (rIxT K)) (pv 1) pe_int (fun _ _ => rfl)) : PI _ _ _ (iTup K _))) (fun _ _ _ _ _ => pg_name (i := 2) sc_stations_of.nd rfl (Or.inl rfl)) (fun _ _ _ _ _ => pts_nil) (fun _ _ _ _ _ => (pe_ix (ix_tup : IxR _ (rIxT K)) (pv 2) pe_int (fun _ _ => rfl)))) pa_nil)) pa_nil))) pss_nil), ?_⟩
  obtain ⟨c, ts, rfl, hts, h9⟩ := hp
  show StG K Fx.non _ _ [.dat (.tuple [c, .tuple ts]), .any, .any] _
  refine st_retSeq (EvN.imp (ev_tupOfL (EvF.evB (evf_sortS2 (inn := callsOf) (f := fun _ x => nmOf x) (vs := [1, 2]) (vs1 := [2]) ?_ ?_ (ei_tup (ev_opD (ev_var rfl) ev_int (rd_ixT rfl))) h9 ?_))) ?_)
  · intro v hv
    simp at hv
    rcases hv with rfl | rfl <;> (show _ < 3; decide)
  · intro v hv
    simp at hv
    subst hv
    show 2 < 3
    decide
  · intro d hd
    obtain ⟨n, dd, cs, rfl, hcs⟩ := hts d hd
    refine ⟨_, [1], by simp, ?_, ?_, eg_name (show 1 < 3 by decide), ?_, fun y hy => ?_⟩
    · rfl
    · rfl
    · exact ei_tup (ds := cs) (ev_opD (d1 := .tuple [.int n, dd, .tuple cs]) (ev_var rfl) ev_int (rd_ixT rfl))
    · obtain ⟨z, m, rfl⟩ := hcs y hy
      exact ⟨_, [2], by simp, eg_name (show 2 < 3 by decide), ev_opD (ev_var rfl) ev_int (rd_ixT rfl)⟩
  · rintro _ ⟨_, ⟨ns, rfl, h1, h2, h3⟩, rfl⟩ c' ts' e
    have e3 : c = c' ∧ ts = ts' := by simpa using e
    rw [← e3.2]
    exact ⟨ns, rfl, h1, h2, h3⟩

end
end K07

namespace K07
open PySem PySem.Spec PyProof.Rows L2 Dl
section
variable {P : Program} {w : World} {K : PySem.W.Frag} {mg : Str → Option Value} {base : Heap} (T : Txt K mg)
abbrev shI : Nat → Bool := fun _ => false
abbrev shT : Nat → Bool := fun i => i == 0
/-- the triple of a call there -/
def one (z : Str) (n : Int) (i : Nat) : PyData → List (List Key)
  | .tuple [.str y, .int m] => if y = z then [[.inl m, .inl n, .inl (i : Int)]] else []
  | _ => []
def hits (z : Str) (n : Int) (cs : List PyData) : List (List Key) := cs.zipIdx.flatMap fun p => one z n p.2 p.1
theorem hits_snoc (z : Str) (n : Int) (cs : List PyData) (x : PyData) : hits z n (cs ++ [x]) = hits z n cs ++ one z n cs.length x := by
  unfold hits
  rw [List.zipIdx_append, List.flatMap_append]
  simp
def atN (z : Str) (ts : List PyData) : List (List Key) := ts.flatMap fun t => hits z (numOf t) (callsOf t)
theorem atN_snoc (z : Str) (ts : List PyData) (t : PyData) : atN z (ts ++ [t]) = atN z ts ++ hits z (numOf t) (callsOf t) := by
  unfold atN
  rw [List.flatMap_append]
  simp
theorem one_le (z : Str) (n : Int) (i : Nat) (x : PyData) : (one z n i x).length ≤ 1 := by
  unfold one
  split
  · split <;> simp
  · simp
theorem hits_le (z : Str) (n : Int) (cs : List PyData) : (hits z n cs).length ≤ cs.length := by
  have := flat_le (f := fun p : PyData × Nat => one z n p.2 p.1) (k := 1) (ts := cs.zipIdx) fun p _ => one_le z n p.2 p.1
  rw [List.length_zipIdx, Nat.mul_one] at this
  exact this
theorem atN_le {z : Str} : ∀ {ts : List PyData}, (atN z ts).length ≤ (namesOf ts).length
  | [] => Nat.le_refl _
  | t :: ts => by
    have ih := atN_le (z := z) (ts := ts)
    have h := hits_le z (numOf t) (callsOf t)
    show ((t :: ts).flatMap _).length ≤ ((t :: ts).flatMap _).length
    rw [List.flatMap_cons, List.flatMap_cons, List.length_append, List.length_append, List.length_map]
    show _ + (atN z ts).length ≤ _ + (namesOf ts).length
    omega
theorem names_at {ts : List PyData} {i : Nat} {t : PyData} (h : ts[i]? = some t) : (namesOf (ts.take i)).length + (callsOf t).length ≤ (namesOf ts).length := by
  have e : ts = ts.take i ++ (t :: ts.drop (i + 1)) := by
    have e1 : ts.take (i + 1) = ts.take i ++ [t] := by rw [List.take_add_one, h]; rfl
    have := (List.take_append_drop (i + 1) ts).symm
    rw [e1, List.append_assoc] at this
    exact this
  have e2 : namesOf ts = namesOf (ts.take i) ++ ((callsOf t).map nmOf ++ namesOf (ts.drop (i + 1))) := by
    conv => lhs; rw [e]
    unfold namesOf
    rw [List.flatMap_append, List.flatMap_cons]
  rw [e2, List.length_append, List.length_append, List.length_map]
  omega
theorem one_sh {z : Str} {n : Int} {i : Nat} {x : PyData} : ∀ ks ∈ one z n i x, ks ≠ [] ∧ shOk shI 0 ks := fun ks h => by
  unfold one at h
  split at h
  · split at h
    · rw [List.mem_singleton] at h
      subst h
      exact ⟨by simp, rfl, rfl, rfl, trivial⟩
    · exact absurd h (by simp)
  · exact absurd h (by simp)
theorem atN_sh {z : Str} {ts : List PyData} : ∀ ks ∈ atN z ts, ks ≠ [] ∧ shOk shI 0 ks := fun ks h => by
  unfold atN hits at h
  rw [List.mem_flatMap] at h
  obtain ⟨t, _, h⟩ := h
  rw [List.mem_flatMap] at h
  obtain ⟨p, _, h⟩ := h
  exact one_sh ks h
/-- calls_at(plan, name) -/
def caP (ds : List PyData) : Prop := ∃ (c : PyData) (ts : List PyData) (z : Str), ds = [.tuple [c, .tuple ts], .str z] ∧ (∀ t ∈ ts, wholeI t) ∧ (namesOf ts).length ≤ 900
def toldAt (z : Str) (ts : List PyData) : List PyData := (srtM (atN z ts)).map tupM
def caQ (ds : List PyData) (d : PyData) : Prop := ∀ (c : PyData) (ts : List PyData) (z : Str), ds = [.tuple [c, .tuple ts], .str z] → d = .tuple (toldAt z ts)
theorem ok_calls_at : FnOk P w K mg base CX0 3 T.f_calls_at T.fd_calls_at ["plan", "name"] (spN K 2 caP caQ) := by
  refine ok_N T.F_calls_at sc_calls_at fun cdv A outer s H E hr ds hl hp => ⟨_, (pss_cons (ps_set (i := 2) sc_calls_at.nd rfl (Or.inl rfl) (pe_lst pa_nil)) (pss_cons (ps_for PassesOwn.never rfl (pi_tup (pe_ix ix_tup (pv 0) pe_int (fun _ _ => rfl))) (pg_tup rfl (pgs_cons (pg_name (i := 3) sc_calls_at.nd rfl (Or.inl rfl)) (pgs_cons (pg_name (i := 4) sc_calls_at.nd rfl (Or.inl rfl)) (pgs_cons (pg_name (i := 5) sc_calls_at.nd rfl (Or.inl rfl)) pgs_nil)))) (pss_cons (ps_for PassesOwn.never rfl (pi_enumT rfl T.n_enumerate (pa_cons (pv 5) pa_nil)) (pg_tup rfl (pgs_cons (pg_name (i := 6) sc_calls_at.nd rfl (Or.inl rfl)) (pgs_cons (pg_tup rfl (pgs_cons (pg_name (i := 7) sc_calls_at.nd rfl (Or.inl rfl)) (pgs_cons (pg_name (i := 8) sc_calls_at.nd rfl (Or.inl rfl)) pgs_nil))) pgs_nil))) (pss_cons (ps_if (pt_cmpR op_eq (pv 7) (pv 1) (nomark _)) (pss_cons (ps_expr (pe_bm PySem.F.plainAttrs_list PySem.F.slot_list_append PySem.F.type_list_append mt_append (pv 2) (pa_cons (pe_tup (pa_cons (pv 8) (pa_cons (pv 3) (pa_cons (pv 6) pa_nil)))) pa_nil))) pss_nil) pss_nil) pss_nil)) pss_nil)) (pss_cons (ps_ret (pe_callTy (call_tuple_of : CallR _ (.type "tuple") (rTupOf K)) rfl T.n_tuple (by decide +kernel) (pa_cons (pe_callB (cr_sortM (shape := shI) : CallR _ _ (rSortM K shI)) rfl T.n_sorted (by decide +kernel) (pa_cons (pv 2) pa_nil)) pa_nil))) pss_nil))), ?_⟩
  obtain ⟨c, ts, z, rfl, hts, h9⟩ := hp
  have szz := sizeLine_eq
  show StG K Fx.non _ _ [.dat (.tuple [c, .tuple ts]), .dat (.str z), .any, .any, .any, .any, .any, .any, .any] _
  refine st_setOwn (PA := (· = [])) (show 2 < 9 by decide) (evf_lst ea_nil (by rintro _ rfl; exact Nat.zero_le _)) fun ds0 e0 => ?_
  subst e0
  refine st_for (ei_tup (ev_opD (ev_var rfl) ev_int (rd_ixT rfl))) (fun _ i ρ => ∃ s3 s4 s5 s6 s7 s8, ρ = [.dat (.tuple [c, .tuple ts]), .dat (.str z), .own ((atN z (ts.take i)).map tupM), s3, s4, s5, s6, s7, s8])
    (fun ρ => ∃ s3 s4 s5 s6 s7 s8, ρ = [.dat (.tuple [c, .tuple ts]), .dat (.str z), .own ((atN z ts).map tupM), s3, s4, s5, s6, s7, s8]) (fun _ _ => ⟨_, _, _, _, _, _, rfl⟩) ?_
    (fun ds ρ' e ⟨s3, s4, s5, s6, s7, s8, h1⟩ => ⟨s3, s4, s5, s6, s7, s8, by rw [e, List.take_length] at h1; exact h1⟩) ?_
  · rintro ds' i t ρ1 e0 ht ⟨s3, s4, s5, s6, s7, s8, rfl⟩
    obtain rfl : ts = ds' := e0.symm
    have hi : i < ts.length := (List.getElem?_eq_some_iff.mp ht).1
    have e1 : ts.take (i + 1) = ts.take i ++ [t] := by rw [List.take_add_one, ht]; rfl
    have lt := names_at ht
    obtain ⟨n, dd, cs, rfl, hcs⟩ := hts t (List.mem_of_getElem? ht)
    have lt : (namesOf (ts.take i)).length + cs.length ≤ (namesOf ts).length := lt
    have e1 : atN z (ts.take (i + 1)) = atN z (ts.take i) ++ hits z n cs := by
      rw [e1, atN_snoc]
      rfl
    refine ⟨_, _, eg_tup (ds := [.int n, dd, .tuple cs]) (egs_cons (eg_name (show 3 < 9 by decide)) (egs_cons (eg_name (show 4 < 9 by decide)) (egs_cons (eg_name (show 5 < 9 by decide)) egs_nil))) rfl, ?_⟩
    refine st_last ?_
    refine st_for (ei_enumT (ev_var rfl)) (fun _ j ρ => ∃ s6 s7 s8, ρ = [.dat (.tuple [c, .tuple ts]), .dat (.str z), .own ((atN z (ts.take i) ++ hits z n (cs.take j)).map tupM), .dat (.int n), .dat dd, .dat (.tuple cs), s6, s7, s8])
      (fun ρ => ∃ s6 s7 s8, ρ = [.dat (.tuple [c, .tuple ts]), .dat (.str z), .own ((atN z (ts.take i) ++ hits z n cs).map tupM), .dat (.int n), .dat dd, .dat (.tuple cs), s6, s7, s8]) (fun _ _ => ⟨s6, s7, s8, ?_⟩) ?_
      (fun ds ρ' e ⟨s6, s7, s8, h1⟩ => ⟨s6, s7, s8, by rw [e, enums_len, List.take_length] at h1; exact h1⟩) (fun ρ' ⟨s6, s7, s8, e⟩ => st_next ⟨_, _, _, _, _, _, by rw [e1]; exact e⟩)
    · show _ = [_, _, Sk.own ((atN z (ts.take i) ++ hits z n []).map tupM), _, _, _, _, _, _]
      rw [show hits z n [] = [] from rfl, List.append_nil]
      rfl
    rintro _ q x ρ1 rfl hx ⟨s6, s7, s8, rfl⟩
    obtain ⟨cl, hcl, rfl⟩ := enums_at hx
    obtain ⟨y, m, rfl⟩ := hcs cl (List.mem_of_getElem? hcl)
    have hq : q < cs.length := (List.getElem?_eq_some_iff.mp hcl).1
    have e2 : cs.take (q + 1) = cs.take q ++ [.tuple [.str y, .int m]] := by rw [List.take_add_one, hcl]; rfl
    have el : (cs.take q).length = q := by rw [List.length_take]; omega
    have len : (atN z (ts.take i) ++ hits z n (cs.take q)).length ≤ 900 := by
      have l1 := atN_le (z := z) (ts := ts.take i)
      have l2 := hits_le z n (cs.take q)
      rw [List.length_append]
      omega
    refine ⟨_, _, eg_tup (ds := [.int ((0 + q : Nat) : Int), .tuple [.str y, .int m]]) (egs_cons (eg_name (show 6 < 9 by decide)) (egs_cons (eg_tup (ds := [.str y, .int m]) (egs_cons (eg_name (show 7 < 9 by decide)) (egs_cons (eg_name (show 8 < 9 by decide)) egs_nil)) rfl) egs_nil)) rfl, ?_⟩
    refine st_ifD (et_testD (ev_opD (ev_var rfl) (ev_var rfl) rd_eqS)) (fun c0 => ?_) (fun c0 => ?_)
    · rw [decide_eq_true_eq] at c0
      subst c0
      refine st_flat (st_append (ds := (atN y (ts.take i) ++ hits y n (cs.take q)).map tupM) rfl (by rw [List.length_map]; omega) (fun l x xs H Q h0 h1 h2 => ⟨l, xs, x, rfl, rfl, h0, h1, h2⟩) (P := (· = tupM [.inl m, .inl n, .inl ((0 + q : Nat) : Int)])) (ev_tupD (ea_consD (ev_var rfl) (ea_consD (ev_var rfl) (ea_consD (ev_var rfl) ea_nil))) (sz _ (by show 3 ≤ _; decide))) fun d e => st_nextSeq (st_next ⟨.dat (.int ((0 + q : Nat) : Int)), .dat (.str y), .dat (.int m), ?_⟩))
      subst e
      rw [e2, hits_snoc, el]
      have : one y n q (.tuple [.str y, .int m]) = [[.inl m, .inl n, .inl (q : Int)]] := by
        unfold one
        dsimp only
        rw [if_pos rfl]
      rw [this, ← List.append_assoc, Nat.zero_add, List.map_append (l₁ := atN y (ts.take i) ++ hits y n (cs.take q)) (l₂ := [[.inl m, .inl n, .inl (q : Int)]])]
      rfl
    · rw [decide_eq_false_iff_not] at c0
      refine st_nextSeq (st_next ⟨.dat (.int ((0 + q : Nat) : Int)), .dat (.str y), .dat (.int m), ?_⟩)
      rw [e2, hits_snoc, el]
      have : one z n q (.tuple [.str y, .int m]) = [] := by
        unfold one
        dsimp only
        rw [if_neg c0]
      rw [this, List.append_nil]
      rfl
  · rintro _ ⟨s3, s4, s5, s6, s7, s8, rfl⟩
    refine st_retSeq (EvN.imp (ev_tupOfL (EvF.evB (evf_sortM (shape := shI) (PN := (· = atN z ts)) (EvB.imp (evb_own rfl) fun es e => ⟨_, e, atN_sh, rfl⟩)))) ?_)
    rintro _ ⟨_, ⟨_, rfl, rfl⟩, rfl⟩ c' ts' z' e
    have e3 : (c = c' ∧ ts = ts') ∧ z = z' := by simpa using e
    rw [← e3.1.2, ← e3.2]
    rfl

end
end K07

namespace K07
open PySem PySem.Spec PyProof.Rows L2 Dl
section
variable {P : Program} {w : World} {K : PySem.W.Frag} {mg : Str → Option Value} {base : Heap} (T : Txt K mg)
def isN (n : Int) (d : PyData) : Bool := match d with
    | .tuple (.int m :: _) => decide (m = n)
    | _ => false
/-- train_of(plan, number) -/
def toG : List PyData → Option PyData
  | [.tuple [_, .tuple ts], .int n] => ts.find? (isN n)
  | _ => none
def toP (ds : List PyData) : Prop := ∃ (c : PyData) (ts : List PyData) (n : Int), ds = [.tuple [c, .tuple ts], .int n] ∧ ∀ t ∈ ts, wholeI t
def toV : List PyData → Int
  | [_, .int n] => n
  | _ => 0
theorem ok_train_of : FnOk P w K mg base (L2.CX P w) 3 T.f_train_of T.fd_train_of ["plan", "number"] (spX K T.lc_NoTrain 2 toP toG toV) := by
  refine ok_X T.F_train_of sc_train_of fun cdv A outer s H E hr ds hl hp => ⟨_, (pss_cons (PS_nox (ps_for PassesOwn.never rfl (pi_tup (pe_ix ix_tup (pv 0) pe_int (fun _ _ => rfl))) (pg_name (i := 2) sc_train_of.nd rfl (Or.inl rfl)) (pss_cons (ps_if (pt_cmpR op_eq (pe_ix ix_tup (pv 2) pe_int (fun _ _ => rfl)) (pv 1) (nomark _)) (pss_cons (ps_ret (pv 2)) pss_nil) pss_nil) pss_nil))) (pss_cons (ps_raiseLow rfl T.low_NoTrain hr (takes_of rfl rfl rfl rfl) (pa_cons (pv 1) pa_nil)) pss_nil)), ?_⟩
  obtain ⟨c, ts, n, rfl, hts⟩ := hp
  show StG K Fx.non _ _ [.dat (.tuple [c, .tuple ts]), .dat (.int n), .any] _
  refine st_for (ei_tup (ev_opD (ev_var rfl) ev_int (rd_ixT rfl))) (fun _ i ρ => ∃ s2, ρ = [.dat (.tuple [c, .tuple ts]), .dat (.int n), s2] ∧ (ts.take i).find? (isN n) = none) (fun ρ => ∃ s2, ρ = [.dat (.tuple [c, .tuple ts]), .dat (.int n), s2] ∧ ts.find? (isN n) = none)
    (fun _ _ => ⟨_, rfl, rfl⟩) ?_ (fun ds ρ' e ⟨s2, h1, h2⟩ => ⟨s2, h1, by rw [e, List.take_length] at h2; exact h2⟩) ?_
  · rintro ds' i t ρ1 e0 ht ⟨s2, rfl, hf⟩
    obtain rfl : ts = ds' := e0.symm
    have e1 : ts.take (i + 1) = ts.take i ++ [t] := by rw [List.take_add_one, ht]; rfl
    obtain ⟨k, dd, cs, rfl, _⟩ := hts t (List.mem_of_getElem? ht)
    refine ⟨_, _, eg_name (show 2 < 3 by decide), ?_⟩
    refine st_ifD (et_testD (ev_opD (ev_opD (d1 := .tuple [.int k, dd, .tuple cs]) (ev_var rfl) ev_int (rd_ixT (d := .int k) rfl)) (ev_var rfl) rd_eqI)) (fun c0 => ?_) (fun c0 => ?_)
    · rw [decide_eq_true_eq] at c0
      refine st_flat (st_retSeq ((ev_var rfl).imp fun d e => ?_))
      have e2 : ts = ts.take i ++ (.tuple [.int k, dd, .tuple cs] :: ts.drop (i + 1)) := by
        have := (List.take_append_drop (i + 1) ts).symm
        rw [e1, List.append_assoc] at this
        exact this
      show ts.find? (isN n) = some d
      rw [e2, List.find?_append, hf, List.find?_cons]
      simp [isN, c0, e]
    · rw [decide_eq_false_iff_not] at c0
      refine st_nextSeq (st_next ⟨_, rfl, ?_⟩)
      rw [e1, List.find?_append, hf]
      simp [isN, c0]
  · rintro _ ⟨s2, rfl, hf⟩
    refine st_raiseX (ev_var rfl) ?_
    exact hf
/-- minute_of(plan, (number, place)) -/
def moP (ds : List PyData) : Prop := ∃ (c : PyData) (ts : List PyData) (n : Int) (dd : PyData) (cs : List PyData) (k : Nat) (z m : PyData), ds = [.tuple [c, .tuple ts], .tuple [.int n, .int (k : Int)]] ∧ (∀ t ∈ ts, wholeI t) ∧ ts.find? (isN n) = some (.tuple [.int n, dd, .tuple cs]) ∧ cs[k]? = some (.tuple [z, m])
def moQ (ds : List PyData) (d : PyData) : Prop := ∀ (c : PyData) (ts : List PyData) (n : Int) (dd : PyData) (cs : List PyData) (k : Nat) (z m : PyData), ds = [.tuple [c, .tuple ts], .tuple [.int n, .int (k : Int)]] → ts.find? (isN n) = some (.tuple [.int n, dd, .tuple cs]) → cs[k]? = some (.tuple [z, m]) → d = m
theorem ok_minute_of : FnOk P w K mg base CX0 4 T.f_minute_of T.fd_minute_of ["plan", "mark"] (spN K 2 moP moQ) := by
  refine ok_N T.F_minute_of sc_minute_of fun cdv A outer s H E hr ds hl hp => ⟨_, (pss_cons (ps_asg (pv 1) (pg_tup rfl (pgs_cons (pg_name (i := 2) sc_minute_of.nd rfl (Or.inl rfl)) (pgs_cons (pg_name (i := 3) sc_minute_of.nd rfl (Or.inl rfl)) pgs_nil)))) (pss_cons (ps_ret (pe_ix ix_tup (pe_ix ix_tup (pe_ix ix_tup (pe_call (ok_train_of T) (hr.mono (by decide)) rfl T.g_train_of T.F_train_of.kp T.b_train_of .nil passL (pa_cons (pv 0) (pa_cons (pv 2) pa_nil))) pe_int (fun _ _ => rfl)) (pv 3) (fun _ _ => rfl)) pe_int (fun _ _ => rfl))) pss_nil)), ?_⟩
  obtain ⟨c, ts, n, dd, cs, k, z, m, rfl, hts, hf, hk⟩ := hp
  show StG K Fx.non _ _ [.dat (.tuple [c, .tuple ts]), .dat (.tuple [.int n, .int (k : Int)]), .any, .any] _
  refine st_asgG (ev_var rfl) fun d e => ?_
  subst e
  refine ⟨_, _, eg_tup (egs_cons (eg_name (show 2 < 4 by decide)) (egs_cons (eg_name (show 3 < 4 by decide)) egs_nil)) rfl, ?_⟩
  have hg : toG [.tuple [c, .tuple ts], .int n] = some (.tuple [.int n, dd, .tuple cs]) := hf
  refine st_retSeq ((ev_opD (ev_opD (ev_opD (ev_callXN (ea_consD (ev_var rfl) (ea_consD (ev_var rfl) ea_nil)) rfl ⟨_, _, _, rfl, hts⟩ hg) ev_int (rd_ixT (d := .tuple cs) rfl)) (ev_var rfl) (rd_ixT (atI_of hk))) ev_int (rd_ixT (d := m) rfl)).imp fun d e => ?_)
  intro c' ts' n' dd' cs' k' z' m' h1 h2 h3
  have e1 : (c = c' ∧ ts = ts') ∧ n = n' ∧ (k : Int) = (k' : Int) := by simpa using h1
  obtain ⟨⟨_, e2⟩, e3, e4⟩ := e1
  have e4 : k = k' := by omega
  subst e2
  subst e4
  subst e3
  rw [h2] at hf
  cases hf
  rw [h3] at hk
  cases hk
  exact e

end
end K07

namespace K07
open PySem PySem.Spec PyProof.Rows L2 Dl
section
variable {P : Program} {w : World} {K : PySem.W.Frag} {mg : Str → Option Value} {base : Heap} (T : Txt K mg)
/-- (number, days, calls) told call by call -/
def ofT (n : Int) (cs : List PyData) : List (List Key) := cs.zipIdx.map fun p => [.inr (nmOf p.1), .inl (minOf p.1), .inl n, .inl (p.2 : Int)]
def otQ (ds : List PyData) (d : PyData) : Prop := ∀ (n : Int) (dd : PyData) (cs : List PyData), ds = [.tuple [.int n, dd, .tuple cs]] → d = .list ((ofT n cs).map tupM)
theorem enums_zip : ∀ (k : Nat) (cs : List PyData), enums k cs = (cs.zipIdx k).map fun p => .tuple [.int ((p.2 : Nat) : Int), p.1]
  | _, [] => rfl
  | k, c :: cs => by
    rw [enums, List.zipIdx_cons, List.map_cons, enums_zip]
theorem ok__law_of_train : FnOk P w K mg base CX0 1 T.f__law_of_train T.fd__law_of_train ["train"] (spN K 1 (fun ds => ∃ t, ds = [t] ∧ wholeI t ∧ (callsOf t).length ≤ 900) otQ) := by
  refine ok_N T.F__law_of_train sc__law_of_train fun cdv A outer s H E hr ds hl hp => ⟨_, (pss_cons (ps_ret (pe_lc (own := [("place", 1), ("call", 2)]) rfl sc__law_of_train.nd (pi_enumT rfl T.n_enumerate (pa_cons (pe_ix ix_tup (pv 0) pe_int (fun _ _ => rfl)) pa_nil)) (blkOk_by (N := N__law_of_train) (sc := defScope s__law_of_train) (by decide +kernel)) (fun _ _ _ _ _ => (pg_tup (by rfl) (pgs_cons (pg_name (i := 1) sc__law_of_train.nd (by rfl) (Or.inl (by rfl)) (Or.inr (by rfl))) (pgs_cons (pg_name (i := 2) sc__law_of_train.nd (by rfl) (Or.inl (by rfl)) (Or.inr (by rfl))) pgs_nil)) : PG _ _ (gTup K 2 _))) (fun _ _ _ _ _ => pts_nil) (fun _ _ _ _ _ => (pe_tup (pa_cons (pe_ix (ix_tup : IxR _ (rIxT K)) (pv 2) pe_int (fun _ _ => rfl)) (pa_cons (pe_ix (ix_tup : IxR _ (rIxT K)) (pv 2) pe_int (fun _ _ => rfl)) (pa_cons (pe_ix (ix_tup : IxR _ (rIxT K)) (pv 0) pe_int (fun _ _ => rfl)) (pa_cons (pv 1) pa_nil)))))))) pss_nil), ?_⟩
  obtain ⟨_, rfl, ⟨n, dd, cs, rfl, hcs⟩, hl9⟩ := hp
  have hl9 : cs.length ≤ 900 := hl9
  show StG K Fx.non _ _ [.dat (.tuple [.int n, dd, .tuple cs]), .any, .any] _
  refine st_retSeq (EvN.imp (EvF.ev (evf_map (ds := enums 0 cs) (vs := [1, 2]) (fun v hv => ?_) (ei_enumT (ev_opD (ev_var rfl) ev_int (rd_ixT (d := .tuple cs) rfl))) (by rw [enums_len]; omega) (fun _ => true) (fun d => match d with | .tuple [.int k, c] => .tuple [.str (nmOf c), .int (minOf c), .int n, .int k] | d => d) ?_)) ?_)
  · simp at hv
    rcases hv with rfl | rfl <;> (show _ < 3; decide)
  · intro d hd
    obtain ⟨q, hq⟩ := List.getElem?_of_mem hd
    obtain ⟨cl, hcl, rfl⟩ := enums_at hq
    obtain ⟨z, m, rfl⟩ := hcs cl (List.mem_of_getElem? hcl)
    refine ⟨_, [1, 2], fun j hj => ?_, eg_tup (ds := [.int ((0 + q : Nat) : Int), .tuple [.str z, .int m]]) (egs_cons (eg_name (show 1 < 3 by decide)) (egs_cons (eg_name (show 2 < 3 by decide)) egs_nil)) rfl, pt_yes, fun _ => ?_⟩
    · simpa using hj
    · exact ev_tupD (ea_consD (ev_opD (d1 := .tuple [.str z, .int m]) (ev_var rfl) ev_int (rd_ixT (d := .str z) rfl)) (ea_consD (ev_opD (d1 := .tuple [.str z, .int m]) (ev_var rfl) ev_int (rd_ixT (d := .int m) rfl)) (ea_consD (ev_opD (d1 := .tuple [.int n, dd, .tuple cs]) (ev_var rfl) ev_int (rd_ixT (d := .int n) rfl)) (ea_consD (ev_var rfl) ea_nil)))) (sz _ (by show 4 ≤ _; decide))
  · rintro _ ⟨_, rfl, rfl⟩ n' dd' cs' e
    have e3 : n = n' ∧ dd = dd' ∧ cs = cs' := by simpa using e
    rw [← e3.1, ← e3.2.2, List.filter_eq_self.mpr (fun _ _ => rfl), enums_zip, List.map_map]
    unfold ofT
    rw [List.map_map]
    rfl

end
end K07

namespace K07
open PySem PySem.Spec PyProof.Rows L2 Dl
section
variable {P : Program} {w : World} {K : PySem.W.Frag} {mg : Str → Option Value} {base : Heap} (T : Txt K mg)
/-- all calls as the stations tell them -/
def partN (z : Str) (ts : List PyData) : List (List Key) := (srtM (atN z ts)).map fun ks => .inr z :: ks
def allN (ns : List Str) (ts : List PyData) : List (List Key) := ns.flatMap fun z => partN z ts
def laP (ds : List PyData) : Prop := ∃ (c : PyData) (ts : List PyData), ds = [.tuple [c, .tuple ts]] ∧ (∀ t ∈ ts, wholeI t) ∧ (namesOf ts).length ≤ 100
def laQ (ds : List PyData) (d : PyData) : Prop := ∀ (c : PyData) (ts : List PyData), ds = [.tuple [c, .tuple ts]] → ∃ ns : List Str, d = .list ((allN ns ts).map tupM) ∧ StrU ns ∧ ns.length ≤ (namesOf ts).length ∧ ∀ k, k ∈ ns ↔ k ∈ namesOf ts
theorem allN_snoc (ns : List Str) (z : Str) (ts : List PyData) : allN (ns ++ [z]) ts = allN ns ts ++ partN z ts := by
  unfold allN
  rw [List.flatMap_append]
  simp
theorem atN_three {z : Str} {ts : List PyData} : ∀ ks ∈ atN z ts, ∃ m n i : Int, ks = [.inl m, .inl n, .inl i] := fun ks h => by
  unfold atN hits at h
  rw [List.mem_flatMap] at h
  obtain ⟨t, _, h⟩ := h
  rw [List.mem_flatMap] at h
  obtain ⟨p, _, h⟩ := h
  unfold one at h
  split at h
  · split at h
    · rw [List.mem_singleton] at h
      exact ⟨_, _, _, h⟩
    · exact absurd h (by simp)
  · exact absurd h (by simp)
theorem ok__law_all : FnOk P w K mg base CX0 4 T.f__law_all T.fd__law_all ["plan"] (spN K 1 laP laQ) := by
  refine ok_N T.F__law_all sc__law_all fun cdv A outer s H E hr ds hl hp => ⟨_, (pss_cons (ps_set (i := 1) sc__law_all.nd rfl (Or.inl rfl) (pe_lst pa_nil)) (pss_cons (ps_for PassesOwn.never rfl (pi_tup (pe_call (ok_stations_of T) (hr.mono (by decide)) rfl T.g_stations_of T.F_stations_of.kp T.b_stations_of .nil pass0 (pa_cons (pv 0) pa_nil))) (pg_name (i := 2) sc__law_all.nd rfl (Or.inl rfl)) (pss_cons (ps_for PassesOwn.never rfl (pi_tup (pe_call (ok_calls_at T) (hr.mono (by decide)) rfl T.g_calls_at T.F_calls_at.kp T.b_calls_at .nil pass0 (pa_cons (pv 0) (pa_cons (pv 2) pa_nil)))) (pg_tup rfl (pgs_cons (pg_name (i := 3) sc__law_all.nd rfl (Or.inl rfl)) (pgs_cons (pg_name (i := 4) sc__law_all.nd rfl (Or.inl rfl)) (pgs_cons (pg_name (i := 5) sc__law_all.nd rfl (Or.inl rfl)) pgs_nil)))) (pss_cons (ps_expr (pe_bm PySem.F.plainAttrs_list PySem.F.slot_list_append PySem.F.type_list_append mt_append (pv 1) (pa_cons (pe_tup (pa_cons (pv 2) (pa_cons (pv 3) (pa_cons (pv 4) (pa_cons (pv 5) pa_nil))))) pa_nil))) pss_nil)) pss_nil)) (pss_cons (ps_ret (pv 1)) pss_nil))), ?_⟩
  obtain ⟨c, ts, rfl, hts, h9⟩ := hp
  have szz := sizeLine_eq
  have pre : soP [.tuple [c, .tuple ts]] := ⟨c, ts, rfl, hts, by omega⟩
  show StG K Fx.non _ _ [.dat (.tuple [c, .tuple ts]), .any, .any, .any, .any, .any] _
  refine st_setOwn (PA := (· = [])) (show 1 < 6 by decide) (evf_lst ea_nil (by rintro _ rfl; exact Nat.zero_le _)) fun ds0 e0 => ?_
  subst e0
  refine st_for (P := fun ds => ∃ ns : List Str, ds = ns.map .str ∧ StrU ns ∧ ns.length ≤ (namesOf ts).length ∧ ∀ k, k ∈ ns ↔ k ∈ namesOf ts) (ei_tupN (EvN.imp (ev_callND (P := fun d => soQ [.tuple [c, .tuple ts]] d) (ea_consD (ev_var rfl) ea_nil) rfl pre fun d h => h) fun d h => ?_))
    (fun ds i ρ => ∃ (ns : List Str) (s2 s3 s4 s5 : Sk), ds = ns.map .str ∧ ρ = [.dat (.tuple [c, .tuple ts]), .own ((allN (ns.take i) ts).map tupM), s2, s3, s4, s5])
    (fun ρ => ∃ (ns : List Str) (s2 s3 s4 s5 : Sk), ρ = [.dat (.tuple [c, .tuple ts]), .own ((allN ns ts).map tupM), s2, s3, s4, s5] ∧ StrU ns ∧ ns.length ≤ (namesOf ts).length ∧ ∀ k, k ∈ ns ↔ k ∈ namesOf ts) (fun ds ⟨ns, e, _⟩ => ⟨ns, _, _, _, _, e, rfl⟩) ?_
    (fun ds ρ' ⟨ms, e1, h1, h2, h3⟩ ⟨ns, s2, s3, s4, s5, e2, e⟩ => ?_) ?_
  · obtain ⟨ns, e, h1, h2, h3⟩ := h c ts rfl
    exact ⟨_, ⟨ns, rfl, h1, h2, h3⟩, e⟩
  · rintro ds i x ρ1 ⟨ms, em, h1, h2, h3⟩ hx ⟨ns, s2, s3, s4, s5, en, rfl⟩
    have emn : ms = ns := by
      rw [em] at en
      have inj : ∀ {a b : List Str}, a.map PyData.str = b.map PyData.str → a = b := fun {a} => by
        induction a with
        | nil =>
          intro b h
          cases b with
          | nil => rfl
          | cons _ _ => cases h
        | cons u a ih =>
          intro b h
          cases b with
          | nil => cases h
          | cons v b =>
            rw [List.map_cons, List.map_cons] at h
            injection h with g1 g2
            injection g1 with g1
            rw [g1, ih g2]
      exact inj en
    subst emn
    rw [em, List.getElem?_map] at hx
    cases hz : ms[i]? with
    | none =>
      rw [hz] at hx
      cases hx
    | some z =>
      rw [hz] at hx
      cases hx
      have hi : i < ms.length := (List.getElem?_eq_some_iff.mp hz).1
      have e1 : ms.take (i + 1) = ms.take i ++ [z] := by rw [List.take_add_one, hz]; rfl
      have cp : caP [.tuple [c, .tuple ts], .str z] := ⟨c, ts, z, rfl, hts, by omega⟩
      have lall : (allN (ms.take i) ts).length ≤ 100 * i := by
        unfold allN
        have := flat_le (f := fun z => partN z ts) (k := 100) (ts := ms.take i) fun y _ => by
          unfold partN
          rw [List.length_map, (srtM_perm _).length_eq]
          have := atN_le (z := y) (ts := ts)
          omega
        have l2 : (ms.take i).length ≤ i := by rw [List.length_take]; omega
        have l3 : (ms.take i).length * 100 ≤ i * 100 := Nat.mul_le_mul_right _ l2
        omega
      refine ⟨_, _, eg_name (show 2 < 6 by decide), ?_⟩
      refine st_last ?_
      refine st_for (ei_tup (ds := toldAt z ts) (ev_callND (P := (· = .tuple (toldAt z ts))) (ea_consD (ev_var rfl) (ea_consD (ev_var rfl) ea_nil)) rfl cp fun d h => h c ts z rfl))
        (fun _ j ρ => ∃ s3 s4 s5 : Sk, ρ = [.dat (.tuple [c, .tuple ts]), .own ((allN (ms.take i) ts ++ (partN z ts).take j).map tupM), .dat (.str z), s3, s4, s5])
        (fun ρ => ∃ s3 s4 s5 : Sk, ρ = [.dat (.tuple [c, .tuple ts]), .own ((allN (ms.take i) ts ++ partN z ts).map tupM), .dat (.str z), s3, s4, s5]) (fun _ _ => ⟨s3, s4, s5, by rw [List.take_zero, List.append_nil]; rfl⟩) ?_
        (fun ds' ρ' e ⟨s3, s4, s5, h⟩ => ⟨s3, s4, s5, by
          rw [e] at h
          unfold toldAt at h
          rw [List.length_map, show (srtM (atN z ts)).length = (partN z ts).length by unfold partN; rw [List.length_map], List.take_length] at h
          exact h⟩) (fun ρ' ⟨s3, s4, s5, e⟩ => st_next ⟨ms, _, _, _, _, em, by rw [e1, allN_snoc]; exact e⟩)
      rintro _ j x ρ1 rfl hx ⟨s3, s4, s5, rfl⟩
      unfold toldAt at hx
      rw [List.getElem?_map] at hx
      cases hk : (srtM (atN z ts))[j]? with
      | none =>
        rw [hk] at hx
        cases hx
      | some ks =>
        rw [hk] at hx
        cases hx
        obtain ⟨m, n, p, rfl⟩ := atN_three ks ((srtM_perm _).mem_iff.mp (List.mem_of_getElem? hk))
        have hp2 : (partN z ts)[j]? = some [.inr z, .inl m, .inl n, .inl p] := by
          unfold partN
          rw [List.getElem?_map, hk]
          rfl
        have e3 : (partN z ts).take (j + 1) = (partN z ts).take j ++ [[.inr z, .inl m, .inl n, .inl p]] := by rw [List.take_add_one, hp2]; rfl
        refine ⟨_, _, eg_tup (ds := [.int m, .int n, .int p]) (egs_cons (eg_name (show 3 < 6 by decide)) (egs_cons (eg_name (show 4 < 6 by decide)) (egs_cons (eg_name (show 5 < 6 by decide)) egs_nil))) rfl, ?_⟩
        have l4 : ((partN z ts).take j).length ≤ 100 := by
          rw [List.length_take]
          unfold partN
          rw [List.length_map, (srtM_perm _).length_eq]
          have := atN_le (z := z) (ts := ts)
          omega
        refine st_append (ds := (allN (ms.take i) ts ++ (partN z ts).take j).map tupM) rfl (by rw [List.length_map, List.length_append]; omega) (fun l x xs H Q h0 h1 h2 => ⟨l, xs, x, rfl, rfl, h0, h1, h2⟩) (P := (· = tupM [.inr z, .inl m, .inl n, .inl p])) (ev_tupD (ea_consD (ev_var rfl) (ea_consD (ev_var rfl) (ea_consD (ev_var rfl) (ea_consD (ev_var rfl) ea_nil)))) (sz _ (by show 4 ≤ _; decide))) fun d e => st_next ⟨.dat (.int m), .dat (.int n), .dat (.int p), ?_⟩
        subst e
        rw [e3, ← List.append_assoc, List.map_append (l₁ := allN (ms.take i) ts ++ (partN z ts).take j) (l₂ := [[.inr z, .inl m, .inl n, .inl p]])]
        rfl
  · have emn : ms.length = ds.length := by rw [e1, List.length_map]
    have inj : ∀ {a b : List Str}, a.map PyData.str = b.map PyData.str → a = b := fun {a} => by
      induction a with
      | nil =>
        intro b h
        cases b with
        | nil => rfl
        | cons _ _ => cases h
      | cons u a ih =>
        intro b h
        cases b with
        | nil => cases h
        | cons v b =>
          rw [List.map_cons, List.map_cons] at h
          injection h with g1 g2
          injection g1 with g1
          rw [g1, ih g2]
    have e5 : ms = ns := inj (by rw [← e1, e2])
    subst e5
    rw [← emn, List.take_length] at e
    exact ⟨ms, s2, s3, s4, s5, e, h1, h2, h3⟩
  · rintro _ ⟨ns, s2, s3, s4, s5, rfl, h1, h2, h3⟩
    refine st_freeze (i := 1) rfl (st_retSeq ((ev_var rfl).imp fun d e => ?_))
    intro c' ts' e2
    have e3 : c = c' ∧ ts = ts' := by simpa using e2
    rw [← e3.2]
    exact ⟨ns, e, h1, h2, h3⟩

end
end K07

namespace K07
open PySem PySem.Spec PyProof.Rows L2 Dl
section
variable {P : Program} {w : World} {K : PySem.W.Frag} {mg : Str → Option Value} {base : Heap} (T : Txt K mg)
def hd (z : Str) (r : List Key) : Bool := decide (r.head? = some (Sum.inr z))
def rowsN (ts : List PyData) : List (List Key) := ts.flatMap fun t => ofT (numOf t) (callsOf t)
theorem hits_rows {z : Str} {n : Int} : ∀ (l : List (PyData × Nat)), (∀ p ∈ l, ∃ (y : Str) (m : Int), p.1 = .tuple [.str y, .int m]) →
    (l.flatMap fun p => one z n p.2 p.1).map (fun ks => (Sum.inr z : Key) :: ks) = (l.map fun p => ([.inr (nmOf p.1), .inl (minOf p.1), .inl n, .inl (p.2 : Int)] : List Key)).filter (hd z)
  | [], _ => rfl
  | (x, i) :: l, h => by
    have ih := hits_rows (z := z) (n := n) l fun p hp => h p (List.mem_cons_of_mem _ hp)
    obtain ⟨y, m, e⟩ := h (x, i) List.mem_cons_self
    have e : x = .tuple [.str y, .int m] := e
    subst e
    rw [List.flatMap_cons, List.map_append, ih, List.map_cons]
    by_cases hy : y = z
    · subst hy
      have h1 : one y n i (.tuple [.str y, .int m]) = [[.inl m, .inl n, .inl (i : Int)]] := by
        unfold one
        dsimp only
        rw [if_pos rfl]
      have h2 : hd y [.inr (nmOf (.tuple [.str y, .int m])), .inl (minOf (.tuple [.str y, .int m])), .inl n, .inl (i : Int)] = true := by
        unfold hd
        exact decide_eq_true rfl
      rw [List.filter_cons_of_pos h2]
      dsimp only
      rw [h1]
      rfl
    · have h1 : one z n i (.tuple [.str y, .int m]) = [] := by
        unfold one
        dsimp only
        rw [if_neg hy]
      have h2 : ¬ hd z [.inr (nmOf (.tuple [.str y, .int m])), .inl (minOf (.tuple [.str y, .int m])), .inl n, .inl (i : Int)] = true := by
        unfold hd
        rw [decide_eq_true_eq]
        intro w
        exact hy (Sum.inr.inj (Option.some.inj w))
      rw [List.filter_cons_of_neg h2]
      dsimp only
      rw [h1]
      rfl
theorem atN_rows {z : Str} : ∀ (ts : List PyData), (∀ t ∈ ts, wholeI t) → (atN z ts).map (fun ks => (Sum.inr z : Key) :: ks) = (rowsN ts).filter (hd z)
  | [], _ => rfl
  | t :: ts, h => by
    have ih := atN_rows (z := z) ts fun u hu => h u (List.mem_cons_of_mem _ hu)
    obtain ⟨n, dd, cs, rfl, hcs⟩ := h t List.mem_cons_self
    unfold atN rowsN at ih ⊢
    rw [List.flatMap_cons, List.flatMap_cons, List.map_append, List.filter_append, ih]
    congr 1
    exact hits_rows cs.zipIdx fun p hp => by
      have g := List.mem_zipIdx_iff_getElem?.mp hp
      exact hcs p.1 (List.mem_of_getElem? g)
theorem perm_flat {α β : Type} {f g : α → List β} : ∀ {ns : List α}, (∀ z ∈ ns, (f z).Perm (g z)) → (ns.flatMap f).Perm (ns.flatMap g)
  | [], _ => .refl _
  | z :: ns, h => by
    rw [List.flatMap_cons, List.flatMap_cons]
    exact (h z List.mem_cons_self).append (perm_flat fun y hy => h y (List.mem_cons_of_mem _ hy))
theorem flat_not {α β : Type} [DecidableEq α] {r : β} {f : α → List β} {z0 : α} : ∀ {ns : List α}, z0 ∉ ns → (ns.flatMap fun z => if z = z0 then r :: f z else f z) = ns.flatMap f
  | [], _ => rfl
  | z :: ns, h => by
    rw [List.flatMap_cons, List.flatMap_cons, if_neg fun e => h (by rw [e]; exact List.mem_cons_self), flat_not fun w => h (List.mem_cons_of_mem _ w)]
theorem flat_one {α β : Type} [DecidableEq α] {r : β} {f : α → List β} {z0 : α} : ∀ {ns : List α}, ns.Nodup → z0 ∈ ns → (ns.flatMap fun z => if z = z0 then r :: f z else f z).Perm (r :: ns.flatMap f)
  | [], _, h => absurd h (by simp)
  | z :: ns, nd, h => by
    rw [List.nodup_cons] at nd
    rw [List.flatMap_cons, List.flatMap_cons]
    by_cases e : z = z0
    · subst e
      rw [if_pos rfl, flat_not nd.1]
      exact .refl _
    · rw [if_neg e]
      have hm : z0 ∈ ns := (List.mem_cons.mp h).resolve_left fun w => e w.symm
      exact ((flat_one nd.2 hm).append_left (f z)).trans List.perm_middle
theorem filter_perm {ns : List Str} (nd : ns.Nodup) : ∀ (rs : List (List Key)), (∀ r ∈ rs, ∃ z ∈ ns, r.head? = some (Sum.inr z)) → (ns.flatMap fun z => rs.filter (hd z)).Perm rs
  | [], _ => by
    have : (ns.flatMap fun z => ([] : List (List Key)).filter (hd z)) = [] := by
      rw [List.flatMap_eq_nil_iff]
      intro x _
      rfl
    rw [this]
  | r :: rs, h => by
    obtain ⟨z0, hz, e⟩ := h r List.mem_cons_self
    have ih := filter_perm nd rs fun x hx => h x (List.mem_cons_of_mem _ hx)
    have eq : (ns.flatMap fun z => (r :: rs).filter (hd z)) = ns.flatMap fun z => if z = z0 then r :: rs.filter (hd z) else rs.filter (hd z) := by
      congr 1
      funext z
      by_cases w : z = z0
      · subst w
        rw [if_pos rfl, List.filter_cons_of_pos (by unfold hd; exact decide_eq_true e)]
      · rw [if_neg w, List.filter_cons_of_neg (by
          unfold hd
          rw [decide_eq_true_eq, e]
          intro q
          exact w (Sum.inr.inj (Option.some.inj q)).symm)]
    rw [eq]
    exact (flat_one nd hz).trans (ih.cons r)
theorem strU_nd {ns : List Str} (h : StrU ns) : ns.Nodup := h.imp fun {a b} hab e => by
  subst e
  exact List.lt_irrefl _ hab
theorem rows_heads {ts : List PyData} {r : List Key} (h : r ∈ rowsN ts) : ∃ z ∈ namesOf ts, r.head? = some (Sum.inr z) := by
  unfold rowsN at h
  rw [List.mem_flatMap] at h
  obtain ⟨t, ht, h⟩ := h
  unfold ofT at h
  obtain ⟨p, hp, rfl⟩ := List.mem_map.mp h
  have g := List.mem_zipIdx_iff_getElem?.mp hp
  refine ⟨nmOf p.1, ?_, rfl⟩
  unfold namesOf
  rw [List.mem_flatMap]
  exact ⟨t, ht, List.mem_map.mpr ⟨p.1, List.mem_of_getElem? g, rfl⟩⟩
theorem allN_perm {ns : List Str} {ts : List PyData} (hts : ∀ t ∈ ts, wholeI t) (h1 : StrU ns) (h2 : ∀ k, k ∈ ns ↔ k ∈ namesOf ts) : (allN ns ts).Perm (rowsN ts) := by
  refine List.Perm.trans (perm_flat (f := fun z => partN z ts) (g := fun z => (rowsN ts).filter (hd z)) fun z _ => ?_) (filter_perm (strU_nd h1) (rowsN ts) fun r hr => ?_)
  · rw [← atN_rows ts hts]
    exact (srtM_perm _).map _
  · obtain ⟨z, hz, e⟩ := rows_heads hr
    exact ⟨z, (h2 z).mpr hz, e⟩

end
end K07

namespace K07
open PySem PySem.Spec PyProof.Rows L2 Dl
section
variable {P : Program} {w : World} {K : PySem.W.Frag} {mg : Str → Option Value} {base : Heap} (T : Txt K mg)
theorem rd_isNn {W : Fx} {d : PyData} : RD K W (fun x y H Q => y = V.non ∧ Q (V.bl (decide (x = V.non))) H) d .none (· = .bool (isNone d)) := fun D H x y o hx hy Q q => by
  cases hy
  refine ⟨rfl, q _ D H _ (.refl o) (.bl _) ?_⟩
  cases hx <;> simp [isNone]
/-- what is asked of a plan here -/
structure Wp (c : PyData) (ts : List PyData) : Prop where
  whole : ∀ t ∈ ts, wholeI t
  few : (namesOf ts).length ≤ 100
  names : ∀ z ∈ namesOf ts, z ∈ names5
  mins : ∀ t ∈ ts, ∀ x ∈ callsOf t, 0 ≤ minOf x ∧ minOf x < 3000
  nums : ∀ t ∈ ts, ts.find? (isN (numOf t)) = some t
  tame : tameV (.tuple [c, .tuple ts])
  right : planE (.tuple [c, .tuple ts]) = .none
theorem plain_keys : ∀ ks : List Key, PyData.plainAll (ks.map kD) = true
  | [] => rfl
  | .inl i :: ks => by simp [PyData.plainAll, PyData.plain, kD, plain_keys ks]
  | .inr z :: ks => by simp [PyData.plainAll, PyData.plain, kD, plain_keys ks]
theorem plain_rows : ∀ kss : List (List Key), PyData.plainAll (kss.map tupM) = true
  | [] => rfl
  | ks :: kss => by
    rw [List.map_cons]
    simp only [PyData.plainAll, tupM, PyData.plain, plain_keys, Bool.true_and]
    exact plain_rows kss
theorem eqv_rows (kss : List (List Key)) : PyData.eqv (.list (kss.map tupM)) (.list (kss.map tupM)) = true := PySem.SeqAt.eqv_refl_plain _ (plain_rows kss)
theorem depth_keys : ∀ ks : List Key, PyData.depthAll (ks.map kD) ≤ 1
  | [] => Nat.zero_le _
  | .inl i :: ks => by
    have := depth_keys ks
    simp only [List.map_cons, PyData.depthAll, kD, PyData.depth]
    omega
  | .inr z :: ks => by
    have := depth_keys ks
    simp only [List.map_cons, PyData.depthAll, kD, PyData.depth]
    omega
theorem depth_rows : ∀ kss : List (List Key), PyData.depthAll (kss.map tupM) ≤ 2
  | [] => Nat.zero_le _
  | ks :: kss => by
    have h1 := depth_rows kss
    have h2 := depth_keys ks
    simp only [List.map_cons, PyData.depthAll, tupM, PyData.depth]
    have : PyData.depthAll (kss.map tupM) ≤ 2 := h1
    omega
theorem sh_rows {kss : List (List Key)} (h : ∀ ks ∈ kss, ∀ z, Sum.inr z ∈ ks → z ∈ names5) : SeqAt.shaped (.list (kss.map tupM)) = true := by
  have h1 : (PyData.list (kss.map tupM)).canLay0 = true := by
    simp only [PyData.canLay0]
    refine lay_all _ fun d hd => ?_
    obtain ⟨ks, hk, rfl⟩ := List.mem_map.mp hd
    unfold tupM
    simp only [PyData.canLay0]
    refine lay_all _ fun d hd => ?_
    obtain ⟨k, hk2, rfl⟩ := List.mem_map.mp hd
    cases k with
    | inl i => simp [kD, PyData.canLay0]
    | inr z => exact Gl.lay (n := 0) (Or.inl (names_sc z (h ks hk z hk2)))
  have h2 : (PyData.list (kss.map tupM)).depth ≤ 64 := by
    have := depth_rows kss
    simp only [PyData.depth]
    omega
  unfold SeqAt.shaped
  rw [h1, decide_eq_true h2, Bool.and_self]
theorem row_of {ts : List PyData} {r : List Key} (hts : ∀ t ∈ ts, wholeI t) (h : r ∈ rowsN ts) : ∃ (n : Int) (dd : PyData) (cs : List PyData) (z : Str) (m : Int) (i : Nat),
    .tuple [.int n, dd, .tuple cs] ∈ ts ∧ cs[i]? = some (.tuple [.str z, .int m]) ∧ r = [.inr z, .inl m, .inl n, .inl (i : Int)] := by
  unfold rowsN at h
  rw [List.mem_flatMap] at h
  obtain ⟨t, ht, h⟩ := h
  obtain ⟨n, dd, cs, rfl, hcs⟩ := hts t ht
  have h : r ∈ ofT n cs := h
  unfold ofT at h
  obtain ⟨⟨x, i⟩, hp, rfl⟩ := List.mem_map.mp h
  have g := List.mem_zipIdx_iff_getElem?.mp hp
  have g : cs[i]? = some x := g
  obtain ⟨z, m, rfl⟩ := hcs x (List.mem_of_getElem? g)
  exact ⟨n, dd, cs, z, m, i, ht, g, rfl⟩
theorem row_names {ts : List PyData} (hts : ∀ t ∈ ts, wholeI t) (hn : ∀ z ∈ namesOf ts, z ∈ names5) : ∀ ks ∈ rowsN ts, ∀ z, Sum.inr z ∈ ks → z ∈ names5 := fun ks h z hz => by
  obtain ⟨n, dd, cs, y, m, i, h1, h2, rfl⟩ := row_of hts h
  simp at hz
  subst hz
  refine hn z ?_
  unfold namesOf
  rw [List.mem_flatMap]
  exact ⟨_, h1, List.mem_map.mpr ⟨_, List.mem_of_getElem? h2, rfl⟩⟩
theorem row_sh {ts : List PyData} (hts : ∀ t ∈ ts, wholeI t) : ∀ ks ∈ rowsN ts, ks ≠ [] ∧ shOk shT 0 ks := fun ks h => by
  obtain ⟨n, dd, cs, z, m, i, _, _, rfl⟩ := row_of hts h
  exact ⟨by simp, rfl, rfl, rfl, rfl, trivial⟩
theorem rowsN_snoc (ts : List PyData) (t : PyData) : rowsN (ts ++ [t]) = rowsN ts ++ ofT (numOf t) (callsOf t) := by
  unfold rowsN
  rw [List.flatMap_append]
  simp
theorem rowsN_len : ∀ ts : List PyData, (rowsN ts).length = (namesOf ts).length
  | [] => rfl
  | t :: ts => by
    have ih := rowsN_len ts
    unfold rowsN namesOf at ih ⊢
    rw [List.flatMap_cons, List.flatMap_cons, List.length_append, List.length_append, ih]
    congr 1
    unfold ofT
    rw [List.length_map, List.length_map, List.length_zipIdx]
theorem names_take (ts : List PyData) (i : Nat) : (namesOf (ts.take i)).length ≤ (namesOf ts).length := by
  have e : namesOf ts = namesOf (ts.take i) ++ namesOf (ts.drop i) := by
    conv => lhs; rw [← List.take_append_drop i ts]
    unfold namesOf
    rw [List.flatMap_append]
  rw [e, List.length_append]
  omega
theorem ok__law_is_whole : FnG P w K mg base CX0 7 T.f__law_is_whole T.fd__law_is_whole ["plan"] (spN K 1 (fun ds => ∃ c ts, ds = [.tuple [c, .tuple ts]] ∧ Wp c ts) fun _ d => d = .bool true) := by
  refine ok_NG T.F__law_is_whole sc__law_is_whole fun cdv A outer s H E hgd hr ds hl hp => ⟨_, (pss_cons (ps_par (i := 2) (j := 3) rfl sc__law_is_whole.nd rfl rfl (by decide) rfl rfl (pa_cons (pe_call (ok__law_all T) (hr.mono (by decide)) rfl T.g__law_all T.F__law_all.kp T.b__law_all .nil pass0 (pa_cons (pv 0) pa_nil)) (pa_cons (pe_lst pa_nil) pa_nil)) rfl) (pss_cons (ps_for PassesOwn.never rfl (pi_tup (pe_ix ix_tup (pv 0) pe_int (fun _ _ => rfl))) (pg_name (i := 1) sc__law_is_whole.nd rfl (Or.inl rfl)) (pss_cons (ps_set (i := 3) sc__law_is_whole.nd rfl (Or.inl rfl) (pe_op (op_catLL : OpR _ _ (rCatL K)) (pv 3) (pe_call (ok__law_of_train T) (hr.mono (by decide)) rfl T.g__law_of_train T.F__law_of_train.kp T.b__law_of_train .nil pass0 (pa_cons (pv 1) pa_nil)))) pss_nil)) (pss_cons (ps_if (pt_cmpR (op_neQ hr.units) (pe_callB (cr_sortM (shape := shT) : CallR _ _ (rSortM K shT)) rfl T.n_sorted (by decide +kernel) (pa_cons (pv 2) pa_nil)) (pe_callB (cr_sortM (shape := shT) : CallR _ _ (rSortM K shT)) rfl T.n_sorted (by decide +kernel) (pa_cons (pv 3) pa_nil)) (nomark _)) (pss_cons (ps_ret pe_bl) pss_nil) pss_nil) (pss_cons (ps_for PassesOwn.never rfl (pi_list (pv 2)) (pg_tup rfl (pgs_cons (pg_name (i := 4) sc__law_is_whole.nd rfl (Or.inl rfl)) (pgs_cons (pg_name (i := 5) sc__law_is_whole.nd rfl (Or.inl rfl)) (pgs_cons (pg_name (i := 6) sc__law_is_whole.nd rfl (Or.inl rfl)) (pgs_cons (pg_name (i := 7) sc__law_is_whole.nd rfl (Or.inl rfl)) pgs_nil))))) (pss_cons (ps_if (pt_cmpR op_ne (pe_callB (call_reprQ hgd hr.units) rfl T.n_repr (by decide +kernel) (pa_cons (pe_lst (pa_cons (pe_ix ix_tup (pe_ix ix_tup (pe_call (ok_train_of T) (hr.mono (by decide)) rfl T.g_train_of T.F_train_of.kp T.b_train_of .nil passL (pa_cons (pv 0) (pa_cons (pv 6) pa_nil))) pe_int (fun _ _ => rfl)) (pv 7) (fun _ _ => rfl)) (pa_cons (pe_call (ok_minute_of T) (hr.mono (by decide)) rfl T.g_minute_of T.F_minute_of.kp T.b_minute_of .nil pass0 (pa_cons (pv 0) (pa_cons (pe_tup (pa_cons (pv 6) (pa_cons (pv 7) pa_nil))) pa_nil))) pa_nil))) pa_nil)) (pe_callB (call_reprQ hgd hr.units) rfl T.n_repr (by decide +kernel) (pa_cons (pe_lst (pa_cons (pe_tup (pa_cons (pv 4) (pa_cons (pv 5) pa_nil))) (pa_cons (pv 5) pa_nil))) pa_nil)) (nomark _)) (pss_cons (ps_ret pe_bl) pss_nil) pss_nil) pss_nil)) (pss_cons (ps_ret (pe_cmpR op_isN (pe_call (ok_plan_error T) (hr.mono (by decide)) rfl T.g_plan_error T.F_plan_error.kp T.b_plan_error .nil pass0 (pa_cons (pv 0) pa_nil)) pe_non (nomark _))) pss_nil))))), ?_⟩
  obtain ⟨c, ts, rfl, wp⟩ := hp
  have hts := wp.whole
  have h9 := wp.few
  have szz := sizeLine_eq
  show StG K Fx.non _ _ [.dat (.tuple [c, .tuple ts]), .any, .any, .any, .any, .any, .any, .any] _
  refine st_parF (P1 := fun d => ∃ ns : List Str, d = .list ((allN ns ts).map tupM) ∧ StrU ns ∧ ns.length ≤ (namesOf ts).length ∧ ∀ k, k ∈ ns ↔ k ∈ namesOf ts) (PL := fun ds => ds = []) (show 2 < 8 by decide) (show 3 < 8 by decide)
    (ev_callND (ea_consD (ev_var rfl) ea_nil) rfl ⟨c, ts, rfl, hts, h9⟩ fun d h => h c ts rfl) (evf_lst ea_nil (by rintro _ rfl; exact Nat.zero_le _)) fun d2 ds hd2 hds => ?_
  subst hds
  obtain ⟨ns, rfl, u1, u2, u3⟩ := hd2
  have pm := allN_perm hts u1 u3
  refine st_for (ei_tup (ev_opD (ev_var rfl) ev_int (rd_ixT rfl))) (fun _ i ρ => ∃ s1 s4 s5 s6 s7, ρ = [.dat (.tuple [c, .tuple ts]), s1, .dat (.list ((allN ns ts).map tupM)), .own ((rowsN (ts.take i)).map tupM), s4, s5, s6, s7])
    (fun ρ => ∃ s1 s4 s5 s6 s7, ρ = [.dat (.tuple [c, .tuple ts]), s1, .dat (.list ((allN ns ts).map tupM)), .own ((rowsN ts).map tupM), s4, s5, s6, s7]) (fun _ _ => ⟨_, _, _, _, _, rfl⟩) ?_
    (fun ds ρ' e ⟨s1, s4, s5, s6, s7, h⟩ => ⟨s1, s4, s5, s6, s7, by rw [e, List.take_length] at h; exact h⟩) ?_
  · rintro ds' i t ρ1 e0 ht ⟨s1, s4, s5, s6, s7, rfl⟩
    obtain rfl : ts = ds' := e0.symm
    have e1 : ts.take (i + 1) = ts.take i ++ [t] := by rw [List.take_add_one, ht]; rfl
    have lt := names_at ht
    have e2 := rowsN_snoc (ts.take i) t
    have hw := hts t (List.mem_of_getElem? ht)
    obtain ⟨n, dd, cs, rfl, hcs⟩ := id hw
    have lt : (namesOf (ts.take i)).length + cs.length ≤ (namesOf ts).length := lt
    have e2 : rowsN (ts.take i ++ [.tuple [.int n, dd, .tuple cs]]) = rowsN (ts.take i) ++ ofT n cs := e2
    refine ⟨_, _, eg_name (show 1 < 8 by decide), ?_⟩
    refine st_setOwn (PA := fun ds => ds = (rowsN (ts.take (i + 1))).map tupM) (show 3 < 8 by decide) (EvF.imp (evf_catLB (PA := (· = (rowsN (ts.take i)).map tupM)) (PB := (· = (ofT n cs).map tupM)) (evl_own rfl) (EvN.evBD (ev_callND (P := (· = .list ((ofT n cs).map tupM))) (ea_consD (ev_var rfl) ea_nil) rfl ⟨_, rfl, hw, by show cs.length ≤ 900; omega⟩ fun d h => h n dd cs rfl)) ?_) ?_) fun ds h => st_next ⟨.dat (.tuple [.int n, dd, .tuple cs]), s4, s5, s6, s7, by rw [h]; rfl⟩
    · rintro _ _ rfl rfl
      rw [List.length_map, List.length_map, rowsN_len]
      unfold ofT
      rw [List.length_map, List.length_zipIdx]
      omega
    · rintro _ ⟨_, _, rfl, rfl, rfl⟩
      rw [e1, e2, List.map_append]
  rintro _ ⟨s1, s4, s5, s6, s7, rfl⟩
  have shp := sh_rows (kss := srtM (rowsN ts)) fun ks h => row_names hts wp.names ks ((srtM_perm _).mem_iff.mp h)
  refine st_ifD (et_testD (ev_opD (EvN.imp (P2 := (· = .list ((srtM (rowsN ts)).map tupM))) (EvF.ev (evf_sortM (shape := shT) (PN := (· = allN ns ts)) (EvB.imp (EvN.evBD (ev_var rfl)) fun es e => ⟨_, e, fun ks h => row_sh hts ks (pm.mem_iff.mp h), rfl⟩))) ?_) (EvN.imp (P2 := (· = .list ((srtM (rowsN ts)).map tupM))) (EvF.ev (evf_sortM (shape := shT) (PN := (· = rowsN ts)) (EvB.imp (evb_own rfl) fun es e => ⟨_, e, row_sh hts, rfl⟩))) ?_) (rd_eqQ (neg := true) shp shp))) (fun c0 => ?_) (fun c0 => st_nextSeq ?_)
  · rintro _ ⟨_, ⟨_, rfl, rfl⟩, rfl⟩
    rw [srtM_of_perm pm]
  · rintro _ ⟨_, ⟨_, rfl, rfl⟩, rfl⟩
    rfl
  · rw [if_pos rfl, eqv_rows] at c0
    cases c0
  refine st_for (ei_list (ev_var rfl)) (fun _ j ρ => ∃ s4 s5 s6 s7, ρ = [.dat (.tuple [c, .tuple ts]), s1, .dat (.list ((allN ns ts).map tupM)), .own ((rowsN ts).map tupM), s4, s5, s6, s7])
    (fun ρ => ∃ s4 s5 s6 s7, ρ = [.dat (.tuple [c, .tuple ts]), s1, .dat (.list ((allN ns ts).map tupM)), .own ((rowsN ts).map tupM), s4, s5, s6, s7]) (fun _ _ => ⟨_, _, _, _, rfl⟩) ?_ (fun ds ρ' _ h => h) ?_
  · rintro _ j x ρ1 rfl hx ⟨s4, s5, s6, s7, rfl⟩
    obtain ⟨r, hr2, rfl⟩ := List.mem_map.mp (List.mem_of_getElem? hx)
    obtain ⟨n, dd, cs, z, m, i, ht, hk, rfl⟩ := row_of hts (pm.mem_iff.mp hr2)
    have hf : ts.find? (isN n) = some (.tuple [.int n, dd, .tuple cs]) := wp.nums _ ht
    have hz : z ∈ names5 := wp.names z (by
      unfold namesOf
      rw [List.mem_flatMap]
      exact ⟨_, ht, List.mem_map.mpr ⟨_, List.mem_of_getElem? hk, rfl⟩⟩)
    have hm : 0 ≤ m ∧ m < 3000 := wp.mins _ ht _ (List.mem_of_getElem? hk)
    refine ⟨_, _, eg_tup (ds := [.str z, .int m, .int n, .int (i : Int)]) (egs_cons (eg_name (show 4 < 8 by decide)) (egs_cons (eg_name (show 5 < 8 by decide)) (egs_cons (eg_name (show 6 < 8 by decide)) (egs_cons (eg_name (show 7 < 8 by decide)) egs_nil)))) rfl, ?_⟩
    have sm0 : Sm 132 1 (.int m) := (sc_int (by omega) (by omega)).sm
    have sm1 : Sm 272 2 (.tuple [.str z, .int m]) := (show Sm (4 + 2 * (132 + 2)) 2 (.tuple [.str z, .int m]) from Sm.tuple (fun x hx => by
      simp only [List.mem_cons, List.not_mem_nil, or_false] at hx
      rcases hx with rfl | rfl
      · exact (names_sc z hz).sm
      · exact sm0) (Nat.le_refl 2))
    have sm2 : Sm (4 + 2 * (272 + 2)) 3 (.list [.tuple [.str z, .int m], .int m]) := Sm.list (fun x hx => by
      simp only [List.mem_cons, List.not_mem_nil, or_false] at hx
      rcases hx with rfl | rfl
      · exact sm1
      · exact sm0.le (by decide) (by decide)) (Nat.le_refl 2)
    have mk2 : 2 ≤ sizeLine := by omega
    have hg : toG [.tuple [c, .tuple ts], .int n] = some (.tuple [.int n, dd, .tuple cs]) := hf
    have mp : moP [.tuple [c, .tuple ts], .tuple [.int n, .int (i : Int)]] := ⟨c, ts, n, dd, cs, i, .str z, .int m, rfl, hts, hf, hk⟩
    have mq : ∀ d, moQ [.tuple [c, .tuple ts], .tuple [.int n, .int (i : Int)]] d → d = .int m := fun d h => h c ts n dd cs i (.str z) (.int m) rfl hf hk
    refine st_ifD (et_testD (ev_opD (ev_cbD (ea_consD (EvF.evD (evf_lst (ea_consD (ev_opD (P := (· = .tuple [.str z, .int m])) (ev_opD (ev_callXN (ea_consD (ev_var rfl) (ea_consD (ev_var rfl) ea_nil)) rfl ⟨c, ts, n, rfl, hts⟩ hg) ev_int (rd_ixT (d := .tuple cs) rfl)) (ev_var rfl) (rd_ixT (atI_of hk))) (ea_consD (ev_callND (P := (· = .int m)) (ea_consD (ev_var rfl) (ea_consD (ev_tupD (ea_consD (ev_var rfl) (ea_consD (ev_var rfl) ea_nil)) mk2) ea_nil)) rfl mp mq) ea_nil)) (by rintro _ rfl; exact mk2))) ea_nil) (rc_reprS sm2 (by decide) (by decide)))
      (ev_cbD (ea_consD (EvF.evD (evf_lst (ea_consD (ev_tupD (ea_consD (ev_var rfl) (ea_consD (ev_var rfl) ea_nil)) mk2) (ea_consD (ev_var rfl) ea_nil)) (by rintro _ rfl; exact mk2))) ea_nil) (rc_reprS sm2 (by decide) (by decide))) rd_neS)) (fun c0 => ?_) (fun c0 => st_nextSeq (st_next ⟨_, _, _, _, rfl⟩))
    rw [decide_eq_true rfl] at c0
    cases c0
  rintro _ ⟨s4, s5, s6, s7, rfl⟩
  refine st_retSeq (EvN.imp (ev_opD (P := (· = .bool (isNone PyData.none))) (ev_callND (P := (· = .none)) (ea_consD (ev_var rfl) ea_nil) rfl ⟨_, rfl, wp.tame⟩ fun d ⟨v, e1, e2⟩ => ?_) ev_non rd_isNn) fun d e => by rw [e]; rfl)
  have e3 : PyData.tuple [c, .tuple ts] = v := by simpa using e1
  rw [e2, ← e3]
  exact wp.right

end
end K07

namespace K07
open PySem PySem.Spec PyProof.Rows L2 Dl
section
variable {P : Program} {w : World} {K : PySem.W.Frag} {mg : Str → Option Value} {base : Heap} (T : Txt K mg)
theorem isTrains.asc {n m : Int} {ts : List PyData} (h : isTrains n ts m) : ∀ (j i : Nat) (a b : PyData), i < j → ts[i]? = some a → ts[j]? = some b → numOf a < numOf b
  | 0, _, _, _, hij, _, _ => absurd hij (Nat.not_lt_zero _)
  | j + 1, i, a, b, hij, ha, hb => by
    obtain ⟨k, ds, cs, e, q1, q2, q3, q4, q5⟩ := h (j + 1) b hb
    have hj : j < ts.length := by
      have := (List.getElem?_eq_some_iff.mp hb).1
      omega
    obtain ⟨c, hc⟩ : ∃ c, ts[j]? = some c := ⟨ts[j], List.getElem?_eq_getElem hj⟩
    have q6 : numOf c + 1 ≤ numOf b := by
      unfold leastOf at q3
      rw [if_pos (Nat.succ_pos _), Nat.add_sub_cancel, hc] at q3
      rw [e]
      exact q3
    rcases Nat.lt_or_ge i j with w | w
    · have := isTrains.asc h j i a c w ha hc
      omega
    · have : i = j := by omega
      subst this
      rw [ha] at hc
      cases hc
      omega
theorem isTrains.pw {n m : Int} {ts : List PyData} (h : isTrains n ts m) : ts.Pairwise fun a b => numOf a < numOf b := by
  rw [List.pairwise_iff_getElem]
  intro i j hi hj hij
  exact h.asc j i _ _ hij (List.getElem?_eq_getElem hi) (List.getElem?_eq_getElem hj)
theorem isTrains.whole {n m : Int} {ts : List PyData} (h : isTrains n ts m) : ∀ t ∈ ts, wholeI t := fun t ht => by
  obtain ⟨i, hi⟩ := List.getElem?_of_mem ht
  obtain ⟨k, ds, _, rfl, _, ⟨cs, rfl, _⟩, _⟩ := h i t hi
  refine ⟨k, ds, _, rfl, fun c hc => ?_⟩
  obtain ⟨x, _, rfl⟩ := List.mem_map.mp hc
  exact ⟨x.1, x.2, rfl⟩
theorem isTrains.calls {n m : Int} {ts : List PyData} (h : isTrains n ts m) : ∀ t ∈ ts, (callsOf t).length ≤ 4 ∧ ∀ c ∈ callsOf t, nmOf c ∈ names5 ∧ 0 ≤ minOf c ∧ minOf c < 3000 := fun t ht => by
  obtain ⟨i, hi⟩ := List.getElem?_of_mem ht
  obtain ⟨k, ds, _, rfl, _, ⟨cs, rfl, g1, g2, g3, _⟩, _⟩ := h i t hi
  show (cs.map callD).length ≤ 4 ∧ ∀ c ∈ cs.map callD, _
  rw [List.length_map]
  refine ⟨g3, fun c hc => ?_⟩
  obtain ⟨x, hx, rfl⟩ := List.mem_map.mp hc
  obtain ⟨q1, q2, q3⟩ := g1 x hx
  exact ⟨q1, q2, by show x.2 < 3000; omega⟩
theorem find_pw : ∀ {ts : List PyData}, (∀ t ∈ ts, wholeI t) → ts.Pairwise (fun a b => numOf a < numOf b) → ∀ t ∈ ts, ts.find? (isN (numOf t)) = some t
  | [], _, _, _, h => absurd h (by simp)
  | u :: ts, hw, hp, t, h => by
    rw [List.pairwise_cons] at hp
    obtain ⟨n, dd, cs, rfl, _⟩ := hw u List.mem_cons_self
    rcases List.mem_cons.mp h with rfl | h
    · rw [List.find?_cons_of_pos (by simp [isN, numOf])]
    · have := hp.1 t h
      have e : ¬ isN (numOf t) (.tuple [.int n, dd, .tuple cs]) = true := by
        show ¬ decide (n = numOf t) = true
        rw [decide_eq_true_eq]
        have this : n < numOf t := this
        omega
      rw [List.find?_cons_of_neg e]
      exact find_pw (fun x hx => hw x (List.mem_cons_of_mem _ hx)) hp.2 t h
theorem names_few {n m : Int} {ts : List PyData} (h : isTrains n ts m) (hl : ts.length ≤ 7) : (namesOf ts).length ≤ 28 := by
  have := flat_le (f := fun t => (callsOf t).map nmOf) (k := 4) (ts := ts) fun t ht => by
    rw [List.length_map]
    exact (h.calls t ht).1
  show (ts.flatMap _).length ≤ 28
  omega
theorem names_five {n m : Int} {ts : List PyData} (h : isTrains n ts m) : ∀ z ∈ namesOf ts, z ∈ names5 := fun z hz => by
  unfold namesOf at hz
  rw [List.mem_flatMap] at hz
  obtain ⟨t, ht, hz⟩ := hz
  obtain ⟨x, hx, rfl⟩ := List.mem_map.mp hz
  exact ((h.calls t ht).2 x hx).1
theorem wp_of {k : Nat} {c : PyData} {n m : Int} {ts : List PyData} (hc : isCal c n) (ht : isTrains n ts m) (hl : ts.length ≤ k) (hk : k ≤ 7) (h0 : 0 ≤ m) (hm : m ≤ 400 * (k : Int)) : Wp c ts := by
  have ip : isPlan k (.tuple [c, .tuple ts]) := ⟨c, n, m, ts, rfl, hc, ht, hl, h0, hm⟩
  refine ⟨ht.whole, ?_, names_five ht, fun t htm x hx => ((ht.calls t htm).2 x hx).2, find_pw ht.whole ht.pw, ?_, plan_right ip hk⟩
  · have := names_few ht (by omega)
    omega
  · intro c' t' e
    have g : Gl 6 true (.tuple [c, .tuple ts]) := ip.gl hk
    have e2 : c = c' ∧ .tuple ts = t' := by simpa using e
    obtain ⟨rfl, rfl⟩ := e2
    refine ⟨(g.items c (by simp)).fewC, fun ts' e => ?_⟩
    cases e
    have gt := g.items (.tuple ts) (by simp)
    exact ⟨fun x hx => (gt.items x hx).tameT, gt.names, by have := gt.tupLen; omega⟩

end
end K07

namespace K07
open PySem PySem.Spec PyProof.Rows L2 Dl
section
variable {P : Program} {w : World} {K : PySem.W.Frag} {mg : Str → Option Value} {base : Heap} (T : Txt K mg)
theorem atI_last {α : Type} {xs : List α} {x : α} (h : xs[xs.length - 1]? = some x) (h0 : 0 < xs.length) : atI xs (-1) = some x := by
  unfold atI ixN
  rw [if_neg (by decide), if_pos (by omega)]
  show xs[((-1 : Int) + (xs.length : Int)).toNat]? = some x
  have : ((-1 : Int) + (xs.length : Int)).toNat = xs.length - 1 := by omega
  rw [this]
  exact h
theorem eqv_tnil (x : PyData) : PyData.eqv x (.tuple []) = isNil x := by
  cases x with
  | tuple ds => cases ds <;> simp [PyData.eqv, PyData.eqvAll, isNil]
  | _ => simp [PyData.eqv, isNil]
theorem sh_tnil : SeqAt.shaped (.tuple []) = true := by decide +kernel
theorem isTrains.last {n m : Int} {ts : List PyData} (h : isTrains n ts m) {q : Int} {dd cc : PyData} (hl : ts[ts.length - 1]? = some (.tuple [.int q, dd, cc])) : isTrains n ts q := fun i t ht => by
  have step : ∀ (d i : Nat) (k : Int) (ds cs : PyData), i + d = ts.length - 1 → ts[i]? = some (.tuple [.int k, ds, cs]) → k ≤ q := fun d => by
    induction d with
    | zero =>
      intro i k ds cs hi e
      rw [Nat.add_zero] at hi
      rw [hi, hl] at e
      cases e
      exact Int.le_refl _
    | succ d ih =>
      intro i k ds cs hi e
      have hi1 : i + 1 < ts.length := by omega
      obtain ⟨k1, d1, c1, e1, _, _, q3, _, _⟩ := h (i + 1) _ (List.getElem?_eq_getElem hi1)
      have := ih (i + 1) k1 d1 c1 (by omega) (by rw [List.getElem?_eq_getElem hi1, e1])
      unfold leastOf at q3
      rw [if_pos (Nat.succ_pos i), Nat.add_sub_cancel, e] at q3
      have q4 : k + 1 ≤ k1 := q3
      omega
  obtain ⟨k, ds, cs, e, q1, q2, q3, q4, q5⟩ := h i t ht
  have hi := (List.getElem?_eq_some_iff.mp ht).1
  exact ⟨k, ds, cs, e, q1, q2, q3, q4, step (ts.length - 1 - i) i k ds cs (by omega) (by rw [ht, e])⟩

section
variable {W : Fx} {ρ : List Sk} {ta tb : TE}
/-- sorted(..) != sorted(..) of the same rows -/
theorem cmp_rows {ts : List PyData} (hts : ∀ t ∈ ts, wholeI t) (hn : ∀ z ∈ namesOf ts, z ∈ names5) (ha : EvB K W ta ρ (fun es => ∃ A : List (List Key), es = A.map tupM ∧ A.Perm (rowsN ts))) (hb : EvB K W tb ρ (fun es => ∃ A : List (List Key), es = A.map tupM ∧ A.Perm (rowsN ts))) :
    EvT K W (tTest (tOp (rEqQ K true) (tCB (rSortM K shT) (tCons ta tNil)) (tCB (rSortM K shT) (tCons tb tNil)))) ρ (· = false) := by
  have shp := sh_rows (kss := srtM (rowsN ts)) fun ks h => row_names hts hn ks ((srtM_perm _).mem_iff.mp h)
  have one : ∀ {t : TE}, EvB K W t ρ (fun es => ∃ A : List (List Key), es = A.map tupM ∧ A.Perm (rowsN ts)) → EvD K W (tCB (rSortM K shT) (tCons t tNil)) ρ (.list ((srtM (rowsN ts)).map tupM)) := fun {t} h =>
    EvN.imp (EvF.ev (evf_sortM (shape := shT) (PN := fun A => A.Perm (rowsN ts)) (EvB.imp h fun es ⟨A, e, p⟩ => ⟨A, e, fun ks h => row_sh hts ks (p.mem_iff.mp h), p⟩))) fun d ⟨_, ⟨A, p, e1⟩, e2⟩ => by rw [e2, e1, srtM_of_perm p]
  exact et_testD ((ev_opD (one ha) (one hb) (rd_eqQ (neg := true) shp shp)).imp fun d e => by rw [e, if_pos rfl, eqv_rows]; rfl)
end
/-- all calls told -/
def isAll (ts : List PyData) (d : PyData) : Prop := ∃ ns : List Str, d = .list ((allN ns ts).map tupM) ∧ StrU ns ∧ ns.length ≤ (namesOf ts).length ∧ ∀ k, k ∈ ns ↔ k ∈ namesOf ts
theorem isAll.rows {ts : List PyData} {d : PyData} (hts : ∀ t ∈ ts, wholeI t) (h : isAll ts d) : ∃ es, (∃ A : List (List Key), es = A.map tupM ∧ A.Perm (rowsN ts)) ∧ d = .list es := by
  obtain ⟨ns, rfl, h1, _, h3⟩ := h
  exact ⟨_, ⟨_, rfl, allN_perm hts h1 h3⟩, rfl⟩
def keyT (t : PyData) : Int × List PyData := (numOf t, callsOf t)
theorem same_names {ts us : List PyData} (h : us.map keyT = ts.map keyT) : namesOf us = namesOf ts := by
  have g : ∀ ts : List PyData, namesOf ts = (ts.map keyT).flatMap fun p => p.2.map nmOf := fun ts => by
    rw [List.flatMap_map]
    rfl
  rw [g, g, h]
theorem same_atN {z : Str} {ts us : List PyData} (h : us.map keyT = ts.map keyT) : atN z us = atN z ts := by
  have g : ∀ ts : List PyData, atN z ts = (ts.map keyT).flatMap fun p => hits z p.1 p.2 := fun ts => by
    rw [List.flatMap_map]
    rfl
  rw [g, g, h]
theorem same_all {ts us : List PyData} {d e : PyData} (h : us.map keyT = ts.map keyT) (h1 : isAll us d) (h2 : isAll ts e) : d = e := by
  obtain ⟨ns, rfl, a1, _, a2⟩ := h1
  obtain ⟨ms, rfl, b1, _, b2⟩ := h2
  rw [same_names h] at a2
  have e1 := strU_eq a1 b1 fun k => (a2 k).trans (b2 k).symm
  subst e1
  unfold allN partN
  congr 2
  congr 1
  funext z
  rw [same_atN h]
theorem sm_all {n m : Int} {ts : List PyData} (h : isTrains n ts m) (hl : ts.length ≤ 7) (hm : m ≤ 3000) {d : PyData} (hd : isAll ts d) : Sm 15180 3 d := by
  obtain ⟨ns, rfl, h1, _, h3⟩ := hd
  have pm := allN_perm h.whole h1 h3
  have hf := names_few h hl
  refine Sm.list (w := 540) (n := 28) (p := 2) (fun x hx => ?_) (by rw [List.length_map, pm.length_eq, rowsN_len]; exact hf)
  obtain ⟨r, hr, rfl⟩ := List.mem_map.mp hx
  obtain ⟨k, dd, cs, z, mi, i, ht, hk, rfl⟩ := row_of h.whole (pm.mem_iff.mp hr)
  have hz : z ∈ names5 := names_five h z (by
    unfold namesOf
    rw [List.mem_flatMap]
    exact ⟨_, ht, List.mem_map.mpr ⟨_, List.mem_of_getElem? hk, rfl⟩⟩)
  have hmi : 0 ≤ mi ∧ mi < 3000 := ((h.calls _ ht).2 _ (List.mem_of_getElem? hk)).2
  have hi : i < 4 := by
    have q1 := (List.getElem?_eq_some_iff.mp hk).1
    have q2 : cs.length ≤ 4 := (h.calls _ ht).1
    omega
  have hkk : 1 ≤ k ∧ k ≤ 3000 := by
    obtain ⟨j, hj⟩ := List.getElem?_of_mem ht
    obtain ⟨k', _, _, e, _, _, _, q4, q5⟩ := h j _ hj
    cases e
    exact ⟨q4, by omega⟩
  exact Sm.tuple (w := 132) (n := 4) (p := 1) (fun x hx => by
    simp only [List.map_cons, List.map_nil, List.mem_cons, List.not_mem_nil, or_false] at hx
    rcases hx with rfl | rfl | rfl | rfl
    · exact (names_sc z hz).sm
    · exact (sc_int (by omega) (by omega)).sm
    · exact (sc_int (by omega) (by omega)).sm
    · exact (sc_int (by omega) (by omega)).sm) (Nat.le_refl 4)

end
end K07

namespace K07
open PySem PySem.Spec PyProof.Rows L2 Dl
section
variable {P : Program} {w : World} {K : PySem.W.Frag} {mg : Str → Option Value} {base : Heap} (T : Txt K mg)
theorem rd_ixC {W : Fx} {cal f hs : PyData} {n : Int} (h : PyData.tuple [f, .int n, hs] = cal) : RD K W (rIxT K) cal (.int 1) (· = .int n) := by
  subst h
  exact rd_ixT rfl
theorem ok_law (hnd : base.NoDigits) : FnG P w K mg base CX0 8 T.f_law T.fd_law ["script"] (sp_law K) := by
  refine fun_okG0 T.F_law sc_law (fun vs H Q E h => ?_) (fun cdv A outer s H vs Q E hgd hr h => ⟨_, (pss_cons (ps_set (i := 1) sc_law.nd rfl (Or.inr rfl) (pe_call (ok__law_well T) (hr.mono (by decide)) rfl T.g__law_well T.F__law_well.kp T.b__law_well .nil pass0 (pa_cons (pv 0) pa_nil))) (pss_cons (ps_for PassesOwn.never rfl (pi_range1 rfl T.n_range (pa_cons pe_int pa_nil)) (pg_name (i := 2) sc_law.nd rfl (Or.inl rfl)) (pss_cons (ps_asg (pe_call (ok__law_plan T) (hr.mono (by decide)) rfl T.g__law_plan T.F__law_plan.kp T.b__law_plan .nil pass0 (pa_cons (pv 1) (pa_cons pe_int (pa_cons pe_int pa_nil)))) (pg_tup rfl (pgs_cons (pg_name (i := 8) sc_law.nd rfl (Or.inr rfl)) (pgs_cons (pg_name (i := 9) sc_law.nd rfl (Or.inl rfl)) pgs_nil)))) (pss_cons (ps_set (i := 3) sc_law.nd rfl (Or.inl rfl) (pe_op op_add (pe_op op_add (pe_ifExp (pt_cmpR (op_neQ hr.units) (pv 9) (pe_tup pa_nil) (nomark _)) (pe_ix ix_tup (pe_ix ix_tup (pv 9) (pe_un un_neg pe_int) (fun _ _ => rfl)) pe_int (fun _ _ => rfl)) pe_int) pe_int) (pe_call (ok__law_draw T) (hr.mono (by decide)) rfl T.g__law_draw T.F__law_draw.kp T.b__law_draw .nil pass0 (pa_cons (pv 1) (pa_cons pe_int pa_nil))))) (pss_cons (ps_set (i := 4) sc_law.nd rfl (Or.inl rfl) (pe_tup (pa_cons (pv 3) (pa_cons (pe_call (ok__law_some T) (hr.mono (by decide)) rfl T.g__law_some T.F__law_some.kp T.b__law_some .nil pass0 (pa_cons (pv 1) (pa_cons (pe_ix ix_tup (pv 8) pe_int (fun _ _ => rfl)) pa_nil))) (pa_cons (pe_call (ok__law_calls T) (hr.mono (by decide)) rfl T.g__law_calls T.F__law_calls.kp T.b__law_calls .nil pass0 (pa_cons (pv 1) (pa_cons pe_int pa_nil))) pa_nil))))) (pss_cons (ps_par (i := 10) (j := 11) rfl sc_law.nd rfl rfl (by decide) rfl rfl (pa_cons (pe_tup (pa_cons (pv 8) (pa_cons (pv 9) pa_nil))) (pa_cons (pe_tup (pa_cons (pv 8) (pa_cons (pe_op op_catA (pv 9) (pe_tup (pa_cons (pv 4) pa_nil))) pa_nil))) pa_nil)) rfl) (pss_cons (ps_if (PW.pt (pw_or (pt_not (pt_val (pe_callG hgd (ok__law_is_whole T) (hr.mono (by decide)) rfl T.g__law_is_whole T.F__law_is_whole.kp T.b__law_is_whole .nil pass0 (pa_cons (pv 10) pa_nil)))) (pw_or1 (pt_not (pt_val (pe_callG hgd (ok__law_is_whole T) (hr.mono (by decide)) rfl T.g__law_is_whole T.F__law_is_whole.kp T.b__law_is_whole .nil pass0 (pa_cons (pv 11) pa_nil))))))) (pss_cons (ps_ret pe_bl) pss_nil) pss_nil) (pss_cons (ps_set (i := 5) sc_law.nd rfl (Or.inl rfl) (pe_call (ok__law_all T) (hr.mono (by decide)) rfl T.g__law_all T.F__law_all.kp T.b__law_all .nil pass0 (pa_cons (pv 10) pa_nil))) (pss_cons (ps_if (pt_cmpR (op_neQ hr.units) (pe_callB (cr_sortM (shape := shT) : CallR _ _ (rSortM K shT)) rfl T.n_sorted (by decide +kernel) (pa_cons (pe_op (op_catLL : OpR _ _ (rCatL K)) (pv 5) (pe_call (ok__law_of_train T) (hr.mono (by decide)) rfl T.g__law_of_train T.F__law_of_train.kp T.b__law_of_train .nil pass0 (pa_cons (pv 4) pa_nil))) pa_nil)) (pe_callB (cr_sortM (shape := shT) : CallR _ _ (rSortM K shT)) rfl T.n_sorted (by decide +kernel) (pa_cons (pe_call (ok__law_all T) (hr.mono (by decide)) rfl T.g__law_all T.F__law_all.kp T.b__law_all .nil pass0 (pa_cons (pv 11) pa_nil)) pa_nil)) (nomark _)) (pss_cons (ps_ret pe_bl) pss_nil) pss_nil) (pss_cons (ps_set (i := 6) sc_law.nd rfl (Or.inl rfl) (pe_tup (pa_cons (pv 8) (pa_cons (pe_slice sl_tupA (pe_ix ix_tup (pv 11) pe_int (fun _ _ => rfl)) (po_some pe_int) po_none) pa_nil)))) (pss_cons (ps_if (pt_cmpR (op_neQ hr.units) (pe_callB (cr_sortM (shape := shT) : CallR _ _ (rSortM K shT)) rfl T.n_sorted (by decide +kernel) (pa_cons (pe_op (op_catLL : OpR _ _ (rCatL K)) (pe_call (ok__law_all T) (hr.mono (by decide)) rfl T.g__law_all T.F__law_all.kp T.b__law_all .nil pass0 (pa_cons (pv 6) pa_nil)) (pe_call (ok__law_of_train T) (hr.mono (by decide)) rfl T.g__law_of_train T.F__law_of_train.kp T.b__law_of_train .nil pass0 (pa_cons (pe_ix ix_tup (pe_ix ix_tup (pv 11) pe_int (fun _ _ => rfl)) pe_int (fun _ _ => rfl)) pa_nil))) pa_nil)) (pe_callB (cr_sortM (shape := shT) : CallR _ _ (rSortM K shT)) rfl T.n_sorted (by decide +kernel) (pa_cons (pe_call (ok__law_all T) (hr.mono (by decide)) rfl T.g__law_all T.F__law_all.kp T.b__law_all .nil pass0 (pa_cons (pv 11) pa_nil)) pa_nil)) (nomark _)) (pss_cons (ps_ret pe_bl) pss_nil) pss_nil) (pss_cons (ps_set (i := 7) sc_law.nd rfl (Or.inl rfl) (pe_callTy (call_tuple_of : CallR _ (.type "tuple") (rTupOf K)) rfl T.n_tuple (by decide +kernel) (pa_cons (pe_lc (own := [("train", 12)]) rfl sc_law.nd (pi_tup (pv 9)) (blkOk_by (N := N_law) (sc := defScope s_law) (by decide +kernel)) (fun _ _ _ _ _ => pg_name (i := 12) sc_law.nd rfl (Or.inl rfl)) (fun _ _ _ _ _ => pts_nil) (fun _ _ _ _ _ => (pe_tup (pa_cons (pe_ix (ix_tup : IxR _ (rIxT K)) (pv 12) pe_int (fun _ _ => rfl)) (pa_cons (pe_call (ok__law_some T) (hr.mono (by decide)) rfl T.g__law_some T.F__law_some.kp T.b__law_some .nil pass0 (pa_cons (pv 1) (pa_cons (pe_ix (ix_tup : IxR _ (rIxT K)) (pv 8) pe_int (fun _ _ => rfl)) pa_nil))) (pa_cons (pe_ix (ix_tup : IxR _ (rIxT K)) (pv 12) pe_int (fun _ _ => rfl)) pa_nil)))))) pa_nil))) (pss_cons (ps_if (pt_cmpR op_ne (pe_callB (call_reprQ hgd hr.units) rfl T.n_repr (by decide +kernel) (pa_cons (pe_call (ok__law_all T) (hr.mono (by decide)) rfl T.g__law_all T.F__law_all.kp T.b__law_all .nil pass0 (pa_cons (pe_tup (pa_cons (pv 8) (pa_cons (pv 7) pa_nil))) pa_nil)) pa_nil)) (pe_callB (call_reprQ hgd hr.units) rfl T.n_repr (by decide +kernel) (pa_cons (pv 5) pa_nil)) (nomark _)) (pss_cons (ps_ret pe_bl) pss_nil) pss_nil) pss_nil)))))))))))) (pss_cons (ps_ret pe_bl) pss_nil))), ?_⟩)
  · obtain ⟨s, ns, rfl, _⟩ := h
    rfl
  obtain ⟨sa, ns, rfl, hS, hn, k⟩ := h
  have szz := sizeLine_eq
  refine ⟨.ref sa, rfl, sa, ns, rfl, hS, hn, fun H1 a b cs m0 n0 sH ha0 hb0 hab ha hb => ?_⟩
  have o1 : Ok (Wl a b) (wout H1 a b) H1 := ok_wout hab ha hb
  have e1 : Env K (Wl a b) (wout H1 a b) H1 (wout H1 a b) H1 ((start N_law [.ref sa]).set 1 (some (.ref a))) ((List.replicate 13 .any).set 1 .rt) := env_rt o1 rfl rfl
  show tSeq _ _ _ ((start N_law [.ref sa]).set 1 (some (.ref a))) H1
  refine StG.run (K := K) (EX := fun _ => False) (xr := False) (Pt := fun d => d = .bool true) ?_ e1 (fun v D' H' d _ q e => by
    subst e
    cases q
    exact k H') (fun _ _ _ z => z)
  show StG K (Wl a b) _ _ [.any, .rt, .any, .any, .any, .any, .any, .any, .any, .any, .any, .any, .any] _
  refine st_for (ei_rng1 (n := 3) (ea_consD ev_int ea_nil) (by decide) (by decide)) (fun ds i ρ => ∃ l, ρ = .any :: .rt :: l ∧ l.length = 11) (fun ρ => ∃ l, ρ = .any :: .rt :: l ∧ l.length = 11) (fun ds e => ⟨_, rfl, rfl⟩) ?_ (fun ds ρ' _ h => h) (fun ρ' ⟨l, e, _⟩ => by subst e; exact st_retSeq ev_bl)
  rintro ds i d ρ1 hds hd ⟨l, rfl, hl11⟩
  match l, hl11 with
  | [s2, s3, s4, s5, s6, s7, s8, s9, s10, s11, s12], _ =>
  refine ⟨_, _, eg_name (show 2 < 13 by decide), ?_⟩
  refine st_asgG (P := isPlan 6) (ev_callWD rfl (ea_consD ev_int (ea_consD ev_int ea_nil)) rfl ⟨6, rfl, by decide⟩ fun d q => q 6 rfl) fun pl hpl => ?_
  obtain ⟨c, n, m, ts, rfl, hc, ht0, hl, hm0, hm1⟩ := hpl
  refine ⟨_, _, eg_tup (egs_cons (eg_name (show 8 < 13 by decide)) (egs_cons (eg_name (show 9 < 13 by decide)) egs_nil)) rfl, ?_⟩
  obtain ⟨f, hs, rfl, hf0, hf1, hn0, hn1, hhs⟩ := id hc
  have gts : Gl 5 false (.tuple ts) := .tup (by show ts.length ≤ 8; omega) fun t h => (ht0.gl hn1 (by omega) t h).up
  -- number
  have num : ∃ q : Int, isTrains n ts q ∧ 0 ≤ q ∧ q ≤ m ∧ EvD K (Wl a b) (tIf (tTest (tOp (rEqQ K true) (tVar 9) (tTup tNil))) (tOp (rIxT K) (tOp (rIxT K) (tVar 9) (tUn (rU fun i => .int (-i)) (tC (.int 1)))) (tC (.int 0))) (tC (.int 0))) [.any, .rt, .dat d, s3, s4, s5, s6, s7, .dat (.tuple [.int f, .int n, hs]), .dat (.tuple ts), s10, s11, s12] (.int q) := by
    have tst : ∀ bb, (!isNil (.tuple ts)) = bb → EvT K (Wl a b) (tTest (tOp (rEqQ K true) (tVar 9) (tTup tNil))) [.any, .rt, .dat d, s3, s4, s5, s6, s7, .dat (.tuple [.int f, .int n, hs]), .dat (.tuple ts), s10, s11, s12] (· = bb) := fun bb hbb => et_testD ((ev_opD (ev_var rfl) (ev_tupD ea_nil (Nat.zero_le _)) (rd_eqQ (gts.shaped (by decide)) sh_tnil)).imp fun d e => by rw [e, eqv_tnil, ← hbb]; rfl)
    by_cases h0 : ts = []
    · subst h0
      refine ⟨0, (fun i t h => nomatch h), Int.le_refl 0, hm0, ev_ifD (b := false) (tst false rfl) (fun h => nomatch h) (fun _ => ev_int)⟩
    · have hpos : 0 < ts.length := List.length_pos_iff.mpr h0
      obtain ⟨q, dd, cc, e, q1, q2, q3, q4, q5⟩ := ht0 (ts.length - 1) _ (List.getElem?_eq_getElem (by omega))
      have hlast : ts[ts.length - 1]? = some (.tuple [.int q, dd, cc]) := by rw [List.getElem?_eq_getElem (by omega), e]
      refine ⟨q, ht0.last hlast, by omega, q5, ev_ifD (b := true) (tst true ?_) (fun _ => ev_opD (P := (· = .int q)) (d1 := .tuple [.int q, dd, cc]) (ev_opD (ev_var rfl) ev_neg (rd_ixT (atI_last hlast hpos))) ev_int (rd_ixT rfl)) (fun h => nomatch h)⟩
      cases ts with
      | nil => exact absurd rfl h0
      | cons x r => rfl
  obtain ⟨q, ht, hq0, hqm, hev⟩ := num
  refine st_set (P := fun d => ∃ i, d = .int i ∧ (q < i ∧ i ≤ q + 10)) (show 3 < 13 by decide) (ev_opI2 (PI := fun j => j = q + 1) (PJ := fun j => 0 ≤ j ∧ j < 9) ((ev_opD (P := (· = .int (q + 1))) hev ev_int (rd_I0 fun _ => .int _)).imp fun d e => ⟨_, e, rfl⟩) (ev_draw rfl ev_int (by decide) (by decide)) (fun x y h1 h2 => ⟨by omega, by omega⟩)) fun d3 hd3 => ?_
  obtain ⟨q', rfl, hq1, hq2⟩ := hd3
  -- more
  refine st_set (P := fun d => ∃ dd cc, d = .tuple [.int q', dd, cc] ∧ isDays n dd ∧ isCalls cc) (show 4 < 13 by decide) (EvN.imp (ev_tup (ea_cons (ev_var rfl) (ea_cons (P := isDays n) (ev_callWD rfl (ea_consD (ev_opD (ev_var rfl) ev_int (rd_ixT (d := .int n) rfl)) ea_nil) rfl ⟨n, rfl, hn0, hn1⟩ fun d ⟨n', e, q⟩ => by cases e; exact q) (ea_cons (P := isCalls) (ev_callWD rfl (ea_consD ev_int ea_nil) rfl ⟨4, rfl, by decide, by decide⟩ fun d q => q) ea_nil))) (fun ds h => by obtain ⟨_, _, rfl, _, _, _, rfl, _, _, _, rfl, _, rfl⟩ := h; exact sz _ (by show 3 ≤ _; decide))) ?_) fun d4 hd4 => ?_
  · rintro d ⟨_, ⟨_, _, rfl, rfl, dd, _, rfl, q1, cc, _, rfl, q3, rfl⟩, rfl⟩
    exact ⟨dd, cc, rfl, q1, q3⟩
  obtain ⟨dd, cc, rfl, hdd, hcc⟩ := hd4
  have htw := ht.snoc hdd hcc hq1 hq0
  have hlw : (ts ++ [PyData.tuple [.int q', dd, cc]]).length ≤ 7 := by
    rw [List.length_append]
    show _ + 1 ≤ 7
    omega
  have wp1 : Wp (.tuple [.int f, .int n, hs]) ts := wp_of (k := 6) hc ht hl (by decide) hq0 (by omega)
  have wp2 : Wp (.tuple [.int f, .int n, hs]) (ts ++ [.tuple [.int q', dd, cc]]) := wp_of (k := 7) hc htw hlw (by decide) (by omega) (by omega)
  have hw2 := wp2.whole
  have hwm : wholeI (.tuple [.int q', dd, cc]) := hw2 _ (by simp)
  -- plan, wider
  refine st_parD (d1 := .tuple [.tuple [.int f, .int n, hs], .tuple ts]) (d2 := .tuple [.tuple [.int f, .int n, hs], .tuple (ts ++ [.tuple [.int q', dd, cc]])]) (show 10 < 13 by decide) (show 11 < 13 by decide)
    (ea_consD (ev_tupD (ea_consD (ev_var rfl) (ea_consD (ev_var rfl) ea_nil)) (sz _ (by show 2 ≤ _; decide))) (ea_consD (ev_tupD (ea_consD (ev_var rfl) (ea_consD (ev_catT (ev_var rfl) (ev_tupD (ea_consD (ev_var rfl) ea_nil) (sz _ (by show 1 ≤ _; decide))) (sz _ (by show ts.length + 1 ≤ _; omega))) ea_nil)) (sz _ (by show 2 ≤ _; decide))) ea_nil)) ?_
  generalize hmore : PyData.tuple [.int q', dd, cc] = more at wp2 hw2 hwm htw hlw ⊢
  generalize hcal : PyData.tuple [.int f, .int n, hs] = cal at hc wp1 wp2 ⊢
  refine st_ifD (b := false) (et_or (PT := (· = false)) (et_notD (b := true) (et_BD (ev_callND (P := (· = .bool true)) (ea_consD (ev_var rfl) ea_nil) rfl ⟨cal, ts, rfl, wp1⟩ fun d h => h))) (fun _ => et_notD (b := true) (et_BD (ev_callND (P := (· = .bool true)) (ea_consD (ev_var rfl) ea_nil) rfl ⟨cal, ts ++ [more], rfl, wp2⟩ fun d h => h))) (fun h => nomatch h)) (fun h => nomatch h) (fun _ => st_nextSeq ?_)
  have mk2 : 2 ≤ sizeLine := by omega
  -- told
  have all1 : laP [.tuple [cal, .tuple ts]] := ⟨cal, ts, rfl, wp1.whole, wp1.few⟩
  have all2 : laP [.tuple [cal, .tuple (ts ++ [more])]] := ⟨cal, _, rfl, wp2.whole, wp2.few⟩
  refine st_set (P := isAll ts) (show 5 < 13 by decide) (ev_callND (ea_consD (ev_var rfl) ea_nil) rfl all1 fun d h => h cal ts rfl) fun d5 hd5 => ?_
  have hlen : ∀ {es : List PyData} {vs : List PyData}, (namesOf vs).length ≤ 100 → (∃ A : List (List Key), es = A.map tupM ∧ A.Perm (rowsN vs)) → es.length ≤ 100 := fun {es vs} wv ⟨A, e, p⟩ => by
    rw [e, List.length_map, p.length_eq, rowsN_len]
    exact wv
  have olen : ∀ {t : PyData}, (callsOf t).length ≤ 4 → ((ofT (numOf t) (callsOf t)).map tupM).length ≤ 4 := fun {t} h => by
    unfold ofT
    rw [List.length_map, List.length_map, List.length_zipIdx]
    exact h
  have oq : ∀ {t d : PyData}, wholeI t → otQ [t] d → d = .list ((ofT (numOf t) (callsOf t)).map tupM) := fun {t d} hw h => by
    obtain ⟨k, dd, cs, rfl, _⟩ := hw
    exact h k dd cs rfl
  have cm := (htw.calls more (by simp)).1
  have r2 : rowsN (ts ++ [more]) = rowsN ts ++ ofT (numOf more) (callsOf more) := rowsN_snoc ts more
  refine st_ifD (b := false) (cmp_rows (ts := ts ++ [more]) hw2 wp2.names (EvB.imp (EvF.evB (evf_catLL (PA := fun es => ∃ A : List (List Key), es = A.map tupM ∧ A.Perm (rowsN ts)) (PB := (· = (ofT (numOf more) (callsOf more)).map tupM)) ((ev_var rfl).imp fun d e => by rw [e]; exact hd5.rows wp1.whole)
    (EvN.evBD (ev_callND (P := (· = .list ((ofT (numOf more) (callsOf more)).map tupM))) (ea_consD (ev_var rfl) ea_nil) rfl ⟨more, rfl, hwm, by omega⟩ fun d h => oq hwm h)) (fun x y hx hy => by
      have := hlen wp1.few hx
      have := olen cm
      rw [hy]
      omega))) ?_) (EvN.evB (EvN.imp (ev_callND (P := isAll (ts ++ [more])) (ea_consD (ev_var rfl) ea_nil) rfl all2 fun d h => h cal _ rfl) fun d h => h.rows hw2))) (fun h => nomatch h) (fun _ => st_nextSeq ?_)
  · rintro _ ⟨_, _, ⟨A, rfl, pA⟩, rfl, rfl⟩
    refine ⟨A ++ ofT (numOf more) (callsOf more), by rw [List.map_append], ?_⟩
    rw [r2]
    exact pA.append_right _
  -- fewer
  obtain ⟨u, r, er⟩ : ∃ u r, ts ++ [more] = u :: r := by cases ts <;> exact ⟨_, _, rfl⟩
  rw [er] at hw2 wp2 all2 htw
  rw [er]
  have hwu := hw2 u List.mem_cons_self
  have hwr : ∀ t ∈ r, wholeI t := fun t h => hw2 t (List.mem_cons_of_mem _ h)
  have cu := (htw.calls u List.mem_cons_self).1
  have r3 : rowsN (u :: r) = ofT (numOf u) (callsOf u) ++ rowsN r := by
    unfold rowsN
    rw [List.flatMap_cons]
  have fr : (namesOf r).length ≤ 100 := by
    have h := wp2.few
    have e : namesOf (u :: r) = (callsOf u).map nmOf ++ namesOf r := by
      unfold namesOf
      rw [List.flatMap_cons]
    rw [e, List.length_append] at h
    omega
  refine st_setD (d := .tuple [cal, .tuple r]) (show 6 < 13 by decide) (ev_tupD (ea_consD (ev_var rfl) (ea_consD (EvN.imp (ev_slTv (ev_opD (d1 := .tuple [cal, .tuple (u :: r)]) (ev_var rfl) ev_int (rd_ixT (d := .tuple (u :: r)) rfl)) (eov_some ev_int) eov_no) fun d e => by rw [e, cut1]; rfl) ea_nil)) (sz _ (by show 2 ≤ _; decide))) ?_
  refine st_ifD (b := false) (cmp_rows (ts := u :: r) hw2 wp2.names (EvB.imp (EvF.evB (evf_catLL (PA := fun es => ∃ A : List (List Key), es = A.map tupM ∧ A.Perm (rowsN r)) (PB := (· = (ofT (numOf u) (callsOf u)).map tupM)) (EvN.imp (ev_callND (P := isAll r) (ea_consD (ev_var rfl) ea_nil) rfl ⟨cal, r, rfl, hwr, fr⟩ fun d h => h cal _ rfl) fun d h => h.rows hwr)
    (EvN.evBD (ev_callND (P := (· = .list ((ofT (numOf u) (callsOf u)).map tupM))) (ea_consD (ev_opD (d1 := .tuple (u :: r)) (ev_opD (d1 := .tuple [cal, .tuple (u :: r)]) (ev_var rfl) ev_int (rd_ixT (d := .tuple (u :: r)) rfl)) ev_int (rd_ixT (d := u) (atI_of (k := 0) rfl))) ea_nil) rfl ⟨u, rfl, hwu, by omega⟩ fun d h => oq hwu h)) (fun x y hx hy => by
      have := hlen fr hx
      have := olen cu
      rw [hy]
      omega))) ?_) (EvN.evB (EvN.imp (ev_callND (P := isAll (u :: r)) (ea_consD (ev_var rfl) ea_nil) rfl all2 fun d h => h cal _ rfl) fun d h => h.rows hw2))) (fun h => nomatch h) (fun _ => st_nextSeq ?_)
  · rintro _ ⟨_, _, ⟨A, rfl, pA⟩, rfl, rfl⟩
    refine ⟨A ++ ofT (numOf u) (callsOf u), by rw [List.map_append], ?_⟩
    rw [r3]
    exact (pA.append_right _).trans List.perm_append_comm
  -- other days
  refine st_set (P := fun d => ∃ us : List PyData, d = .tuple us ∧ us.map keyT = ts.map keyT ∧ ∀ t ∈ us, wholeI t) (show 7 < 13 by decide) (EvN.imp (ev_tupOfL (EvF.evB (evf_lc (P := (· = ts)) (vs := [12]) ?_ (ei_tup (ev_var rfl)) (fun _ i acc => acc.map keyT = (ts.take i).map keyT ∧ ∀ t ∈ acc, wholeI t) (fun _ _ => ⟨rfl, fun t h => nomatch h⟩) (fun ds e => by rw [e]; omega) ?_))) ?_) fun d7 hd7 => ?_
  · intro v hv
    simp at hv
    subst hv
    show 12 < 13
    decide
  · rintro ds' i t acc e0 hti ⟨ha1, ha2⟩
    rw [e0] at hti
    have e1 : ts.take (i + 1) = ts.take i ++ [t] := by rw [List.take_add_one, hti]; rfl
    obtain ⟨k, dd, cs, rfl, hcs⟩ := wp1.whole t (List.mem_of_getElem? hti)
    refine ⟨_, [12], (· = true), fun y => ∃ x, y = .tuple [.int k, x, .tuple cs], fun j hj => hj, eg_name (show 12 < 13 by decide), pt_yes, fun _ => ⟨EvN.imp (ev_tup (ea_cons (P := (· = .int k)) (ev_opD (d1 := .tuple [.int k, dd, .tuple cs]) (ev_var rfl) ev_int (rd_ixT rfl)) (ea_cons (P := fun _ => True) (ev_callWD rfl (ea_consD (ev_opD (d1 := cal) (ev_var rfl) ev_int (rd_ixC hcal)) ea_nil) rfl ⟨n, rfl, hn0, hn1⟩ fun d _ => trivial) (ea_cons (P := (· = .tuple cs)) (ev_opD (d1 := .tuple [.int k, dd, .tuple cs]) (ev_var rfl) ev_int (rd_ixT rfl)) ea_nil))) (fun ds h => by obtain ⟨_, _, rfl, _, _, _, rfl, _, _, _, rfl, _, rfl⟩ := h; exact sz _ (by show 3 ≤ _; decide))) ?_, fun y hy => ?_⟩, fun h => nomatch h⟩
    · rintro d ⟨_, ⟨_, _, rfl, rfl, x, _, rfl, _, _, _, rfl, rfl, rfl⟩, rfl⟩
      exact ⟨x, rfl⟩
    · obtain ⟨x, rfl⟩ := hy
      refine ⟨?_, fun t h => ?_⟩
      · rw [List.map_append, ha1, e1, List.map_append]
        rfl
      · rcases List.mem_append.mp h with h | h
        · exact ha2 t h
        · rw [List.mem_singleton] at h
          rw [h]
          exact ⟨k, x, cs, rfl, hcs⟩
  · rintro _ ⟨es, ⟨_, rfl, h1, h2⟩, rfl⟩
    rw [List.take_length] at h1
    exact ⟨es, rfl, h1, h2⟩
  obtain ⟨us, rfl, hus, hwus⟩ := hd7
  have sma := sm_all ht (by omega) (by omega) hd5
  refine st_ifD (et_testD (ev_opD (ev_cbD (ea_consD (EvN.imp (ev_callND (P := isAll us) (ea_consD (ev_tupD (ea_consD (ev_var rfl) (ea_consD (ev_var rfl) ea_nil)) mk2) ea_nil) rfl ⟨cal, us, rfl, hwus, by rw [same_names hus]; exact wp1.few⟩ fun d h => h cal us rfl) fun d h => same_all hus h hd5) ea_nil) (rc_reprS sma (by decide) (by decide))) (ev_cbD (ea_consD (ev_var rfl) ea_nil) (rc_reprS sma (by decide) (by decide))) rd_neS)) (fun c0 => ?_) (fun c0 => st_nextSeq (st_next ⟨_, rfl, rfl⟩))
  rw [decide_eq_true rfl] at c0
  cases c0

end
end K07

namespace K07
open PySem PySem.Spec PyProof.Rows L2 Dl
theorem all_mk {P : Program} {w : World} {K : PySem.W.Frag} {h : Heap} {mg : Str → Option Value} {fa : Addr} (X : K.In h) (G : h.Ns mainGlobals mg) (hfa : mg "law" = some (.ref fa))
    {oc_is_integer kV_is_integer dc_is_integer pm_is_integer cd_is_integer ct_is_integer : Value} {od_is_integer an_is_integer : Option Addr} {sl_is_integer : Array (Option Value)} {f_is_integer : Addr}
    {oc_is_within kV_is_within dc_is_within pm_is_within cd_is_within ct_is_within : Value} {od_is_within an_is_within : Option Addr} {sl_is_within : Array (Option Value)} {f_is_within : Addr}
    {oc_is_tuple_of kV_is_tuple_of dc_is_tuple_of pm_is_tuple_of cd_is_tuple_of ct_is_tuple_of : Value} {od_is_tuple_of an_is_tuple_of : Option Addr} {sl_is_tuple_of : Array (Option Value)} {f_is_tuple_of : Addr}
    {oc_ascends kV_ascends dc_ascends pm_ascends cd_ascends ct_ascends : Value} {od_ascends an_ascends : Option Addr} {sl_ascends : Array (Option Value)} {f_ascends : Addr}
    {oc_is_name kV_is_name dc_is_name pm_is_name cd_is_name ct_is_name : Value} {od_is_name an_is_name : Option Addr} {sl_is_name : Array (Option Value)} {f_is_name : Addr}
    {oc_is_call kV_is_call dc_is_call pm_is_call cd_is_call ct_is_call : Value} {od_is_call an_is_call : Option Addr} {sl_is_call : Array (Option Value)} {f_is_call : Addr}
    {oc_are_days kV_are_days dc_are_days pm_are_days cd_are_days ct_are_days : Value} {od_are_days an_are_days : Option Addr} {sl_are_days : Array (Option Value)} {f_are_days : Addr}
    {oc_is_calendar kV_is_calendar dc_is_calendar pm_is_calendar cd_is_calendar ct_is_calendar : Value} {od_is_calendar an_is_calendar : Option Addr} {sl_is_calendar : Array (Option Value)} {f_is_calendar : Addr}
    {oc_calls_error kV_calls_error dc_calls_error pm_calls_error cd_calls_error ct_calls_error : Value} {od_calls_error an_calls_error : Option Addr} {sl_calls_error : Array (Option Value)} {f_calls_error : Addr}
    {oc_train_error kV_train_error dc_train_error pm_train_error cd_train_error ct_train_error : Value} {od_train_error an_train_error : Option Addr} {sl_train_error : Array (Option Value)} {f_train_error : Addr}
    {oc_count_error kV_count_error dc_count_error pm_count_error cd_count_error ct_count_error : Value} {od_count_error an_count_error : Option Addr} {sl_count_error : Array (Option Value)} {f_count_error : Addr}
    {oc_plan_error kV_plan_error dc_plan_error pm_plan_error cd_plan_error ct_plan_error : Value} {od_plan_error an_plan_error : Option Addr} {sl_plan_error : Array (Option Value)} {f_plan_error : Addr}
    {oc_stations_of kV_stations_of dc_stations_of pm_stations_of cd_stations_of ct_stations_of : Value} {od_stations_of an_stations_of : Option Addr} {sl_stations_of : Array (Option Value)} {f_stations_of : Addr}
    {oc_calls_at kV_calls_at dc_calls_at pm_calls_at cd_calls_at ct_calls_at : Value} {od_calls_at an_calls_at : Option Addr} {sl_calls_at : Array (Option Value)} {f_calls_at : Addr}
    {oc_train_of kV_train_of dc_train_of pm_train_of cd_train_of ct_train_of : Value} {od_train_of an_train_of : Option Addr} {sl_train_of : Array (Option Value)} {f_train_of : Addr}
    {oc_minute_of kV_minute_of dc_minute_of pm_minute_of cd_minute_of ct_minute_of : Value} {od_minute_of an_minute_of : Option Addr} {sl_minute_of : Array (Option Value)} {f_minute_of : Addr}
    {oc__law_well kV__law_well dc__law_well pm__law_well cd__law_well ct__law_well : Value} {od__law_well an__law_well : Option Addr} {sl__law_well : Array (Option Value)} {f__law_well : Addr}
    {oc__law_draw kV__law_draw dc__law_draw pm__law_draw cd__law_draw ct__law_draw : Value} {od__law_draw an__law_draw : Option Addr} {sl__law_draw : Array (Option Value)} {f__law_draw : Addr}
    {oc__law_pick kV__law_pick dc__law_pick pm__law_pick cd__law_pick ct__law_pick : Value} {od__law_pick an__law_pick : Option Addr} {sl__law_pick : Array (Option Value)} {f__law_pick : Addr}
    {oc__law_calendar kV__law_calendar dc__law_calendar pm__law_calendar cd__law_calendar ct__law_calendar : Value} {od__law_calendar an__law_calendar : Option Addr} {sl__law_calendar : Array (Option Value)} {f__law_calendar : Addr}
    {oc__law_some kV__law_some dc__law_some pm__law_some cd__law_some ct__law_some : Value} {od__law_some an__law_some : Option Addr} {sl__law_some : Array (Option Value)} {f__law_some : Addr}
    {oc__law_calls kV__law_calls dc__law_calls pm__law_calls cd__law_calls ct__law_calls : Value} {od__law_calls an__law_calls : Option Addr} {sl__law_calls : Array (Option Value)} {f__law_calls : Addr}
    {oc__law_plan kV__law_plan dc__law_plan pm__law_plan cd__law_plan ct__law_plan : Value} {od__law_plan an__law_plan : Option Addr} {sl__law_plan : Array (Option Value)} {f__law_plan : Addr}
    {oc__law_all kV__law_all dc__law_all pm__law_all cd__law_all ct__law_all : Value} {od__law_all an__law_all : Option Addr} {sl__law_all : Array (Option Value)} {f__law_all : Addr}
    {oc__law_of_train kV__law_of_train dc__law_of_train pm__law_of_train cd__law_of_train ct__law_of_train : Value} {od__law_of_train an__law_of_train : Option Addr} {sl__law_of_train : Array (Option Value)} {f__law_of_train : Addr}
    {oc__law_is_whole kV__law_is_whole dc__law_is_whole pm__law_is_whole cd__law_is_whole ct__law_is_whole : Value} {od__law_is_whole an__law_is_whole : Option Addr} {sl__law_is_whole : Array (Option Value)} {f__law_is_whole : Addr}
    {oc_law kV_law dc_law pm_law cd_law ct_law : Value} {od_law an_law : Option Addr} {sl_law : Array (Option Value)} {f_law : Addr}
    {t_MAX_NAME : Tok}
    {t_MAX_NUMBER : Tok}
    {t_MAX_MINUTE : Tok}
    {t_MAX_SPAN : Tok}
    {t_MAX_TRAINS : Tok}
    {t_MAX_STATIONS : Tok}
    {t_MAX_CALLS : Tok}
    {t_LETTERS : Tok}
    {qnm_NoTrain qq_NoTrain : Str} {qC_NoTrain qN_NoTrain qI_NoTrain : Addr} {qbs_NoTrain : List Value} {qsn_NoTrain : List Str} {qsub_NoTrain : List Value} {qab_NoTrain : Bool} {qcol_NoTrain : Option Bool} {qdd_NoTrain qod_NoTrain qan_NoTrain : Option Addr} {qm0_NoTrain qm1_NoTrain qm2_NoTrain qm3_NoTrain qm5_NoTrain : Option Value} {qsl_NoTrain : Array (Option Value)} {qoc_NoTrain qdc_NoTrain qpm_NoTrain qcd_NoTrain qct_NoTrain : Value}
    (a_is_integer : PySem.W.nsIn K mainGlobals "is_integer" = some (some (.ref f_is_integer))) (l_is_integer : K.lookup f_is_integer = some ⟨oc_is_integer, od_is_integer, .func (PySem.W.fnOf "is_integer" "is_integer" (defArgs s_is_integer) (defBody s_is_integer) (defScope s_is_integer) .none kV_is_integer dc_is_integer pm_is_integer an_is_integer cd_is_integer ct_is_integer), sl_is_integer⟩) (c_is_integer : PySem.W.codeIn K cd_is_integer "is_integer" = true) (k_is_integer : PySem.W.keepIn K (.ref f_is_integer) = true)
    (a_is_within : PySem.W.nsIn K mainGlobals "is_within" = some (some (.ref f_is_within))) (l_is_within : K.lookup f_is_within = some ⟨oc_is_within, od_is_within, .func (PySem.W.fnOf "is_within" "is_within" (defArgs s_is_within) (defBody s_is_within) (defScope s_is_within) .none kV_is_within dc_is_within pm_is_within an_is_within cd_is_within ct_is_within), sl_is_within⟩) (c_is_within : PySem.W.codeIn K cd_is_within "is_within" = true) (k_is_within : PySem.W.keepIn K (.ref f_is_within) = true)
    (a_is_tuple_of : PySem.W.nsIn K mainGlobals "is_tuple_of" = some (some (.ref f_is_tuple_of))) (l_is_tuple_of : K.lookup f_is_tuple_of = some ⟨oc_is_tuple_of, od_is_tuple_of, .func (PySem.W.fnOf "is_tuple_of" "is_tuple_of" (defArgs s_is_tuple_of) (defBody s_is_tuple_of) (defScope s_is_tuple_of) .none kV_is_tuple_of dc_is_tuple_of pm_is_tuple_of an_is_tuple_of cd_is_tuple_of ct_is_tuple_of), sl_is_tuple_of⟩) (c_is_tuple_of : PySem.W.codeIn K cd_is_tuple_of "is_tuple_of" = true) (k_is_tuple_of : PySem.W.keepIn K (.ref f_is_tuple_of) = true)
    (a_ascends : PySem.W.nsIn K mainGlobals "ascends" = some (some (.ref f_ascends))) (l_ascends : K.lookup f_ascends = some ⟨oc_ascends, od_ascends, .func (PySem.W.fnOf "ascends" "ascends" (defArgs s_ascends) (defBody s_ascends) (defScope s_ascends) .none kV_ascends dc_ascends pm_ascends an_ascends cd_ascends ct_ascends), sl_ascends⟩) (c_ascends : PySem.W.codeIn K cd_ascends "ascends" = true) (k_ascends : PySem.W.keepIn K (.ref f_ascends) = true)
    (a_is_name : PySem.W.nsIn K mainGlobals "is_name" = some (some (.ref f_is_name))) (l_is_name : K.lookup f_is_name = some ⟨oc_is_name, od_is_name, .func (PySem.W.fnOf "is_name" "is_name" (defArgs s_is_name) (defBody s_is_name) (defScope s_is_name) .none kV_is_name dc_is_name pm_is_name an_is_name cd_is_name ct_is_name), sl_is_name⟩) (c_is_name : PySem.W.codeIn K cd_is_name "is_name" = true) (k_is_name : PySem.W.keepIn K (.ref f_is_name) = true)
    (a_is_call : PySem.W.nsIn K mainGlobals "is_call" = some (some (.ref f_is_call))) (l_is_call : K.lookup f_is_call = some ⟨oc_is_call, od_is_call, .func (PySem.W.fnOf "is_call" "is_call" (defArgs s_is_call) (defBody s_is_call) (defScope s_is_call) .none kV_is_call dc_is_call pm_is_call an_is_call cd_is_call ct_is_call), sl_is_call⟩) (c_is_call : PySem.W.codeIn K cd_is_call "is_call" = true) (k_is_call : PySem.W.keepIn K (.ref f_is_call) = true)
    (a_are_days : PySem.W.nsIn K mainGlobals "are_days" = some (some (.ref f_are_days))) (l_are_days : K.lookup f_are_days = some ⟨oc_are_days, od_are_days, .func (PySem.W.fnOf "are_days" "are_days" (defArgs s_are_days) (defBody s_are_days) (defScope s_are_days) .none kV_are_days dc_are_days pm_are_days an_are_days cd_are_days ct_are_days), sl_are_days⟩) (c_are_days : PySem.W.codeIn K cd_are_days "are_days" = true) (k_are_days : PySem.W.keepIn K (.ref f_are_days) = true)
    (a_is_calendar : PySem.W.nsIn K mainGlobals "is_calendar" = some (some (.ref f_is_calendar))) (l_is_calendar : K.lookup f_is_calendar = some ⟨oc_is_calendar, od_is_calendar, .func (PySem.W.fnOf "is_calendar" "is_calendar" (defArgs s_is_calendar) (defBody s_is_calendar) (defScope s_is_calendar) .none kV_is_calendar dc_is_calendar pm_is_calendar an_is_calendar cd_is_calendar ct_is_calendar), sl_is_calendar⟩) (c_is_calendar : PySem.W.codeIn K cd_is_calendar "is_calendar" = true) (k_is_calendar : PySem.W.keepIn K (.ref f_is_calendar) = true)
    (a_calls_error : PySem.W.nsIn K mainGlobals "calls_error" = some (some (.ref f_calls_error))) (l_calls_error : K.lookup f_calls_error = some ⟨oc_calls_error, od_calls_error, .func (PySem.W.fnOf "calls_error" "calls_error" (defArgs s_calls_error) (defBody s_calls_error) (defScope s_calls_error) .none kV_calls_error dc_calls_error pm_calls_error an_calls_error cd_calls_error ct_calls_error), sl_calls_error⟩) (c_calls_error : PySem.W.codeIn K cd_calls_error "calls_error" = true) (k_calls_error : PySem.W.keepIn K (.ref f_calls_error) = true)
    (a_train_error : PySem.W.nsIn K mainGlobals "train_error" = some (some (.ref f_train_error))) (l_train_error : K.lookup f_train_error = some ⟨oc_train_error, od_train_error, .func (PySem.W.fnOf "train_error" "train_error" (defArgs s_train_error) (defBody s_train_error) (defScope s_train_error) .none kV_train_error dc_train_error pm_train_error an_train_error cd_train_error ct_train_error), sl_train_error⟩) (c_train_error : PySem.W.codeIn K cd_train_error "train_error" = true) (k_train_error : PySem.W.keepIn K (.ref f_train_error) = true)
    (a_count_error : PySem.W.nsIn K mainGlobals "count_error" = some (some (.ref f_count_error))) (l_count_error : K.lookup f_count_error = some ⟨oc_count_error, od_count_error, .func (PySem.W.fnOf "count_error" "count_error" (defArgs s_count_error) (defBody s_count_error) (defScope s_count_error) .none kV_count_error dc_count_error pm_count_error an_count_error cd_count_error ct_count_error), sl_count_error⟩) (c_count_error : PySem.W.codeIn K cd_count_error "count_error" = true) (k_count_error : PySem.W.keepIn K (.ref f_count_error) = true)
    (a_plan_error : PySem.W.nsIn K mainGlobals "plan_error" = some (some (.ref f_plan_error))) (l_plan_error : K.lookup f_plan_error = some ⟨oc_plan_error, od_plan_error, .func (PySem.W.fnOf "plan_error" "plan_error" (defArgs s_plan_error) (defBody s_plan_error) (defScope s_plan_error) .none kV_plan_error dc_plan_error pm_plan_error an_plan_error cd_plan_error ct_plan_error), sl_plan_error⟩) (c_plan_error : PySem.W.codeIn K cd_plan_error "plan_error" = true) (k_plan_error : PySem.W.keepIn K (.ref f_plan_error) = true)
    (a_stations_of : PySem.W.nsIn K mainGlobals "stations_of" = some (some (.ref f_stations_of))) (l_stations_of : K.lookup f_stations_of = some ⟨oc_stations_of, od_stations_of, .func (PySem.W.fnOf "stations_of" "stations_of" (defArgs s_stations_of) (defBody s_stations_of) (defScope s_stations_of) .none kV_stations_of dc_stations_of pm_stations_of an_stations_of cd_stations_of ct_stations_of), sl_stations_of⟩) (c_stations_of : PySem.W.codeIn K cd_stations_of "stations_of" = true) (k_stations_of : PySem.W.keepIn K (.ref f_stations_of) = true)
    (a_calls_at : PySem.W.nsIn K mainGlobals "calls_at" = some (some (.ref f_calls_at))) (l_calls_at : K.lookup f_calls_at = some ⟨oc_calls_at, od_calls_at, .func (PySem.W.fnOf "calls_at" "calls_at" (defArgs s_calls_at) (defBody s_calls_at) (defScope s_calls_at) .none kV_calls_at dc_calls_at pm_calls_at an_calls_at cd_calls_at ct_calls_at), sl_calls_at⟩) (c_calls_at : PySem.W.codeIn K cd_calls_at "calls_at" = true) (k_calls_at : PySem.W.keepIn K (.ref f_calls_at) = true)
    (a_train_of : PySem.W.nsIn K mainGlobals "train_of" = some (some (.ref f_train_of))) (l_train_of : K.lookup f_train_of = some ⟨oc_train_of, od_train_of, .func (PySem.W.fnOf "train_of" "train_of" (defArgs s_train_of) (defBody s_train_of) (defScope s_train_of) .none kV_train_of dc_train_of pm_train_of an_train_of cd_train_of ct_train_of), sl_train_of⟩) (c_train_of : PySem.W.codeIn K cd_train_of "train_of" = true) (k_train_of : PySem.W.keepIn K (.ref f_train_of) = true)
    (a_minute_of : PySem.W.nsIn K mainGlobals "minute_of" = some (some (.ref f_minute_of))) (l_minute_of : K.lookup f_minute_of = some ⟨oc_minute_of, od_minute_of, .func (PySem.W.fnOf "minute_of" "minute_of" (defArgs s_minute_of) (defBody s_minute_of) (defScope s_minute_of) .none kV_minute_of dc_minute_of pm_minute_of an_minute_of cd_minute_of ct_minute_of), sl_minute_of⟩) (c_minute_of : PySem.W.codeIn K cd_minute_of "minute_of" = true) (k_minute_of : PySem.W.keepIn K (.ref f_minute_of) = true)
    (a__law_well : PySem.W.nsIn K mainGlobals "_law_well" = some (some (.ref f__law_well))) (l__law_well : K.lookup f__law_well = some ⟨oc__law_well, od__law_well, .func (PySem.W.fnOf "_law_well" "_law_well" (defArgs s__law_well) (defBody s__law_well) (defScope s__law_well) .none kV__law_well dc__law_well pm__law_well an__law_well cd__law_well ct__law_well), sl__law_well⟩) (c__law_well : PySem.W.codeIn K cd__law_well "_law_well" = true) (k__law_well : PySem.W.keepIn K (.ref f__law_well) = true)
    (a__law_draw : PySem.W.nsIn K mainGlobals "_law_draw" = some (some (.ref f__law_draw))) (l__law_draw : K.lookup f__law_draw = some ⟨oc__law_draw, od__law_draw, .func (PySem.W.fnOf "_law_draw" "_law_draw" (defArgs s__law_draw) (defBody s__law_draw) (defScope s__law_draw) .none kV__law_draw dc__law_draw pm__law_draw an__law_draw cd__law_draw ct__law_draw), sl__law_draw⟩) (c__law_draw : PySem.W.codeIn K cd__law_draw "_law_draw" = true) (k__law_draw : PySem.W.keepIn K (.ref f__law_draw) = true)
    (a__law_pick : PySem.W.nsIn K mainGlobals "_law_pick" = some (some (.ref f__law_pick))) (l__law_pick : K.lookup f__law_pick = some ⟨oc__law_pick, od__law_pick, .func (PySem.W.fnOf "_law_pick" "_law_pick" (defArgs s__law_pick) (defBody s__law_pick) (defScope s__law_pick) .none kV__law_pick dc__law_pick pm__law_pick an__law_pick cd__law_pick ct__law_pick), sl__law_pick⟩) (c__law_pick : PySem.W.codeIn K cd__law_pick "_law_pick" = true) (k__law_pick : PySem.W.keepIn K (.ref f__law_pick) = true)
    (a__law_calendar : PySem.W.nsIn K mainGlobals "_law_calendar" = some (some (.ref f__law_calendar))) (l__law_calendar : K.lookup f__law_calendar = some ⟨oc__law_calendar, od__law_calendar, .func (PySem.W.fnOf "_law_calendar" "_law_calendar" (defArgs s__law_calendar) (defBody s__law_calendar) (defScope s__law_calendar) .none kV__law_calendar dc__law_calendar pm__law_calendar an__law_calendar cd__law_calendar ct__law_calendar), sl__law_calendar⟩) (c__law_calendar : PySem.W.codeIn K cd__law_calendar "_law_calendar" = true) (k__law_calendar : PySem.W.keepIn K (.ref f__law_calendar) = true)
    (a__law_some : PySem.W.nsIn K mainGlobals "_law_some" = some (some (.ref f__law_some))) (l__law_some : K.lookup f__law_some = some ⟨oc__law_some, od__law_some, .func (PySem.W.fnOf "_law_some" "_law_some" (defArgs s__law_some) (defBody s__law_some) (defScope s__law_some) .none kV__law_some dc__law_some pm__law_some an__law_some cd__law_some ct__law_some), sl__law_some⟩) (c__law_some : PySem.W.codeIn K cd__law_some "_law_some" = true) (k__law_some : PySem.W.keepIn K (.ref f__law_some) = true)
    (a__law_calls : PySem.W.nsIn K mainGlobals "_law_calls" = some (some (.ref f__law_calls))) (l__law_calls : K.lookup f__law_calls = some ⟨oc__law_calls, od__law_calls, .func (PySem.W.fnOf "_law_calls" "_law_calls" (defArgs s__law_calls) (defBody s__law_calls) (defScope s__law_calls) .none kV__law_calls dc__law_calls pm__law_calls an__law_calls cd__law_calls ct__law_calls), sl__law_calls⟩) (c__law_calls : PySem.W.codeIn K cd__law_calls "_law_calls" = true) (k__law_calls : PySem.W.keepIn K (.ref f__law_calls) = true)
    (a__law_plan : PySem.W.nsIn K mainGlobals "_law_plan" = some (some (.ref f__law_plan))) (l__law_plan : K.lookup f__law_plan = some ⟨oc__law_plan, od__law_plan, .func (PySem.W.fnOf "_law_plan" "_law_plan" (defArgs s__law_plan) (defBody s__law_plan) (defScope s__law_plan) .none kV__law_plan dc__law_plan pm__law_plan an__law_plan cd__law_plan ct__law_plan), sl__law_plan⟩) (c__law_plan : PySem.W.codeIn K cd__law_plan "_law_plan" = true) (k__law_plan : PySem.W.keepIn K (.ref f__law_plan) = true)
    (a__law_all : PySem.W.nsIn K mainGlobals "_law_all" = some (some (.ref f__law_all))) (l__law_all : K.lookup f__law_all = some ⟨oc__law_all, od__law_all, .func (PySem.W.fnOf "_law_all" "_law_all" (defArgs s__law_all) (defBody s__law_all) (defScope s__law_all) .none kV__law_all dc__law_all pm__law_all an__law_all cd__law_all ct__law_all), sl__law_all⟩) (c__law_all : PySem.W.codeIn K cd__law_all "_law_all" = true) (k__law_all : PySem.W.keepIn K (.ref f__law_all) = true)
    (a__law_of_train : PySem.W.nsIn K mainGlobals "_law_of_train" = some (some (.ref f__law_of_train))) (l__law_of_train : K.lookup f__law_of_train = some ⟨oc__law_of_train, od__law_of_train, .func (PySem.W.fnOf "_law_of_train" "_law_of_train" (defArgs s__law_of_train) (defBody s__law_of_train) (defScope s__law_of_train) .none kV__law_of_train dc__law_of_train pm__law_of_train an__law_of_train cd__law_of_train ct__law_of_train), sl__law_of_train⟩) (c__law_of_train : PySem.W.codeIn K cd__law_of_train "_law_of_train" = true) (k__law_of_train : PySem.W.keepIn K (.ref f__law_of_train) = true)
    (a__law_is_whole : PySem.W.nsIn K mainGlobals "_law_is_whole" = some (some (.ref f__law_is_whole))) (l__law_is_whole : K.lookup f__law_is_whole = some ⟨oc__law_is_whole, od__law_is_whole, .func (PySem.W.fnOf "_law_is_whole" "_law_is_whole" (defArgs s__law_is_whole) (defBody s__law_is_whole) (defScope s__law_is_whole) .none kV__law_is_whole dc__law_is_whole pm__law_is_whole an__law_is_whole cd__law_is_whole ct__law_is_whole), sl__law_is_whole⟩) (c__law_is_whole : PySem.W.codeIn K cd__law_is_whole "_law_is_whole" = true) (k__law_is_whole : PySem.W.keepIn K (.ref f__law_is_whole) = true)
    (a_law : PySem.W.nsIn K mainGlobals "law" = some (some (.ref f_law))) (l_law : K.lookup f_law = some ⟨oc_law, od_law, .func (PySem.W.fnOf "law" "law" (defArgs s_law) (defBody s_law) (defScope s_law) .none kV_law dc_law pm_law an_law cd_law ct_law), sl_law⟩) (c_law : PySem.W.codeIn K cd_law "law" = true) (k_law : PySem.W.keepIn K (.ref f_law) = true)
    (v_MAX_NAME : PySem.W.nsIn K mainGlobals "MAX_NAME" = some (some (.int (12) t_MAX_NAME)))
    (v_MAX_NUMBER : PySem.W.nsIn K mainGlobals "MAX_NUMBER" = some (some (.int (9999) t_MAX_NUMBER)))
    (v_MAX_MINUTE : PySem.W.nsIn K mainGlobals "MAX_MINUTE" = some (some (.int (2879) t_MAX_MINUTE)))
    (v_MAX_SPAN : PySem.W.nsIn K mainGlobals "MAX_SPAN" = some (some (.int (400) t_MAX_SPAN)))
    (v_MAX_TRAINS : PySem.W.nsIn K mainGlobals "MAX_TRAINS" = some (some (.int (24) t_MAX_TRAINS)))
    (v_MAX_STATIONS : PySem.W.nsIn K mainGlobals "MAX_STATIONS" = some (some (.int (16) t_MAX_STATIONS)))
    (v_MAX_CALLS : PySem.W.nsIn K mainGlobals "MAX_CALLS" = some (some (.int (200) t_MAX_CALLS)))
    (v_LETTERS : PySem.W.nsIn K mainGlobals "LETTERS" = some (some (.str "abcdefghijklmnopqrstuvwxyz" t_LETTERS)))
    (q1_NoTrain : PySem.W.nsIn K mainGlobals "NoTrain" = some (some (.ref qC_NoTrain))) (q2_NoTrain : K.lookup qC_NoTrain = some (excClassObj qnm_NoTrain qq_NoTrain qC_NoTrain qN_NoTrain qbs_NoTrain [.ref qV_SheetError, .type "ValueError", .type "Exception", .type "BaseException", .type "object"] true qsn_NoTrain qsub_NoTrain qab_NoTrain qcol_NoTrain qdd_NoTrain qm0_NoTrain qm1_NoTrain qm2_NoTrain qm3_NoTrain qm5_NoTrain "ValueError.__new__")) (q3_NoTrain : PySem.W.findIn K (.ref qC_NoTrain) "__setattr__" = some (some (.builtin "object.__setattr__"))) (q4_NoTrain : PySem.W.findIn K (.ref qC_NoTrain) "__getattribute__" = some (some (.builtin "BaseException.__getattribute__"))) (q5_NoTrain : PySem.W.findIn K (.ref qC_NoTrain) "__getattr__" = some none) (q6_NoTrain : PySem.W.findIn K (.ref qC_NoTrain) "given" = some none) (q7_NoTrain : PySem.W.findIn K (.ref qC_NoTrain) "__init__" = some (some (.ref qI_NoTrain))) (q8_NoTrain : PySem.W.typeIn K (.ref qI_NoTrain) = some (.type "function")) (q9_NoTrain : K.lookup qI_NoTrain = some ⟨qoc_NoTrain, qod_NoTrain, .func (PySem.W.fnOf "__init__" "NoTrain.__init__" (PySem.LowX.iA ⟨6, 17, 6, 21⟩ ⟨6, 23, 6, 28⟩) (PySem.LowX.iB ⟨7, 8, 7, 12⟩ ⟨7, 8, 7, 18⟩ ⟨7, 21, 7, 26⟩ ⟨7, 8, 7, 26⟩) PySem.LowX.iS .none .none qdc_NoTrain qpm_NoTrain qan_NoTrain qcd_NoTrain qct_NoTrain), qsl_NoTrain⟩) (qa_NoTrain : PySem.W.codeIn K qcd_NoTrain "NoTrain.__init__" = true) (qb_NoTrain : PySem.W.keepIn K (.ref qC_NoTrain) = true) (qc_NoTrain : PySem.W.subIn K (.ref qC_NoTrain) (.type "BaseException") = some true) (qd_NoTrain : PySem.W.typeIn K (.ref qC_NoTrain) = some (.type "type")) (qe_NoTrain : PySem.W.hasDictIn K qC_NoTrain = true) (qf_NoTrain : PySem.W.isClsIn K qC_NoTrain = true) (qg_NoTrain : PySem.W.subIn K (.ref qC_NoTrain) (.ref qC_NoTrain) = some true) (qh_NoTrain : PySem.W.findIn K (.ref qC_NoTrain) "__class__" = some (some (.builtin "object.__class__"))) (qi_NoTrain : PySem.W.specialIn K (.builtin "object.__class__") "__get__" = some (some (.builtin "getset_descriptor.__get__"))) (qj_NoTrain : PySem.W.takesIn K (.builtin "object.__class__") = some true) (qk_NoTrain : PySem.W.mroIn K qC_NoTrain (.type "object") = some true)
    (z_len : PySem.W.nsIn K mainGlobals "len" = some none)
    (z_int : PySem.W.nsIn K mainGlobals "int" = some none)
    (z_abs : PySem.W.nsIn K mainGlobals "abs" = some none)
    (z_range : PySem.W.nsIn K mainGlobals "range" = some none)
    (z_enumerate : PySem.W.nsIn K mainGlobals "enumerate" = some none)
    (z_list : PySem.W.nsIn K mainGlobals "list" = some none)
    (z_repr : PySem.W.nsIn K mainGlobals "repr" = some none)
    (z_tuple : PySem.W.nsIn K mainGlobals "tuple" = some none)
    (z_isinstance : PySem.W.nsIn K mainGlobals "isinstance" = some none)
    (z_bool : PySem.W.nsIn K mainGlobals "bool" = some none)
    (z_str : PySem.W.nsIn K mainGlobals "str" = some none)
    (z_all : PySem.W.nsIn K mainGlobals "all" = some none)
    (z_zip : PySem.W.nsIn K mainGlobals "zip" = some none)
    (z_set : PySem.W.nsIn K mainGlobals "set" = some none)
    (z_sorted : PySem.W.nsIn K mainGlobals "sorted" = some none) :
    ∃ fd : FuncData, (∀ (s : Shared) (u : Value), BindsTo s fd ⟨[u], []⟩ [("script", u)]) ∧ ∀ base : Heap, K.In base → base.Ns mainGlobals mg → base.NoDigits → Dl.FnG P w K mg base CX0 8 fa fd ["script"] (sp_law K) := by
  have e : f_law = fa := by
    have e := hfa.symm.trans (PySem.W.mg_of X G a_law)
    cases e
    rfl
  subst e
  have T : { T : Txt K mg // T.f_law = f_law ∧ T.fd_law = PySem.W.fnOf "law" "law" (defArgs s_law) (defBody s_law) (defScope s_law) .none kV_law dc_law pm_law an_law cd_law ct_law } := ⟨{ f_is_integer := f_is_integer, fd_is_integer := _, F_is_integer := fun_mk (st := s_is_integer) l_is_integer c_is_integer k_is_integer, g_is_integer := PySem.W.mg_of X G a_is_integer, f_is_within := f_is_within, fd_is_within := _, F_is_within := fun_mk (st := s_is_within) l_is_within c_is_within k_is_within, g_is_within := PySem.W.mg_of X G a_is_within, f_is_tuple_of := f_is_tuple_of, fd_is_tuple_of := _, F_is_tuple_of := fun_mk (st := s_is_tuple_of) l_is_tuple_of c_is_tuple_of k_is_tuple_of, g_is_tuple_of := PySem.W.mg_of X G a_is_tuple_of, f_ascends := f_ascends, fd_ascends := _, F_ascends := fun_mk (st := s_ascends) l_ascends c_ascends k_ascends, g_ascends := PySem.W.mg_of X G a_ascends, f_is_name := f_is_name, fd_is_name := _, F_is_name := fun_mk (st := s_is_name) l_is_name c_is_name k_is_name, g_is_name := PySem.W.mg_of X G a_is_name, f_is_call := f_is_call, fd_is_call := _, F_is_call := fun_mk (st := s_is_call) l_is_call c_is_call k_is_call, g_is_call := PySem.W.mg_of X G a_is_call, f_are_days := f_are_days, fd_are_days := _, F_are_days := fun_mk (st := s_are_days) l_are_days c_are_days k_are_days, g_are_days := PySem.W.mg_of X G a_are_days, f_is_calendar := f_is_calendar, fd_is_calendar := _, F_is_calendar := fun_mk (st := s_is_calendar) l_is_calendar c_is_calendar k_is_calendar, g_is_calendar := PySem.W.mg_of X G a_is_calendar, f_calls_error := f_calls_error, fd_calls_error := _, F_calls_error := fun_mk (st := s_calls_error) l_calls_error c_calls_error k_calls_error, g_calls_error := PySem.W.mg_of X G a_calls_error, f_train_error := f_train_error, fd_train_error := _, F_train_error := fun_mk (st := s_train_error) l_train_error c_train_error k_train_error, g_train_error := PySem.W.mg_of X G a_train_error, f_count_error := f_count_error, fd_count_error := _, F_count_error := fun_mk (st := s_count_error) l_count_error c_count_error k_count_error, g_count_error := PySem.W.mg_of X G a_count_error, f_plan_error := f_plan_error, fd_plan_error := _, F_plan_error := fun_mk (st := s_plan_error) l_plan_error c_plan_error k_plan_error, g_plan_error := PySem.W.mg_of X G a_plan_error, f_stations_of := f_stations_of, fd_stations_of := _, F_stations_of := fun_mk (st := s_stations_of) l_stations_of c_stations_of k_stations_of, g_stations_of := PySem.W.mg_of X G a_stations_of, f_calls_at := f_calls_at, fd_calls_at := _, F_calls_at := fun_mk (st := s_calls_at) l_calls_at c_calls_at k_calls_at, g_calls_at := PySem.W.mg_of X G a_calls_at, f_train_of := f_train_of, fd_train_of := _, F_train_of := fun_mk (st := s_train_of) l_train_of c_train_of k_train_of, g_train_of := PySem.W.mg_of X G a_train_of, f_minute_of := f_minute_of, fd_minute_of := _, F_minute_of := fun_mk (st := s_minute_of) l_minute_of c_minute_of k_minute_of, g_minute_of := PySem.W.mg_of X G a_minute_of, f__law_well := f__law_well, fd__law_well := _, F__law_well := fun_mk (st := s__law_well) l__law_well c__law_well k__law_well, g__law_well := PySem.W.mg_of X G a__law_well, f__law_draw := f__law_draw, fd__law_draw := _, F__law_draw := fun_mk (st := s__law_draw) l__law_draw c__law_draw k__law_draw, g__law_draw := PySem.W.mg_of X G a__law_draw, f__law_pick := f__law_pick, fd__law_pick := _, F__law_pick := fun_mk (st := s__law_pick) l__law_pick c__law_pick k__law_pick, g__law_pick := PySem.W.mg_of X G a__law_pick, f__law_calendar := f__law_calendar, fd__law_calendar := _, F__law_calendar := fun_mk (st := s__law_calendar) l__law_calendar c__law_calendar k__law_calendar, g__law_calendar := PySem.W.mg_of X G a__law_calendar, f__law_some := f__law_some, fd__law_some := _, F__law_some := fun_mk (st := s__law_some) l__law_some c__law_some k__law_some, g__law_some := PySem.W.mg_of X G a__law_some, f__law_calls := f__law_calls, fd__law_calls := _, F__law_calls := fun_mk (st := s__law_calls) l__law_calls c__law_calls k__law_calls, g__law_calls := PySem.W.mg_of X G a__law_calls, f__law_plan := f__law_plan, fd__law_plan := _, F__law_plan := fun_mk (st := s__law_plan) l__law_plan c__law_plan k__law_plan, g__law_plan := PySem.W.mg_of X G a__law_plan, f__law_all := f__law_all, fd__law_all := _, F__law_all := fun_mk (st := s__law_all) l__law_all c__law_all k__law_all, g__law_all := PySem.W.mg_of X G a__law_all, f__law_of_train := f__law_of_train, fd__law_of_train := _, F__law_of_train := fun_mk (st := s__law_of_train) l__law_of_train c__law_of_train k__law_of_train, g__law_of_train := PySem.W.mg_of X G a__law_of_train, f__law_is_whole := f__law_is_whole, fd__law_is_whole := _, F__law_is_whole := fun_mk (st := s__law_is_whole) l__law_is_whole c__law_is_whole k__law_is_whole, g__law_is_whole := PySem.W.mg_of X G a__law_is_whole, f_law := f_law, fd_law := _, F_law := fun_mk (st := s_law) l_law c_law k_law, g_law := PySem.W.mg_of X G a_law, t_MAX_NAME := t_MAX_NAME, g_MAX_NAME := PySem.W.mg_of X G v_MAX_NAME, t_MAX_NUMBER := t_MAX_NUMBER, g_MAX_NUMBER := PySem.W.mg_of X G v_MAX_NUMBER, t_MAX_MINUTE := t_MAX_MINUTE, g_MAX_MINUTE := PySem.W.mg_of X G v_MAX_MINUTE, t_MAX_SPAN := t_MAX_SPAN, g_MAX_SPAN := PySem.W.mg_of X G v_MAX_SPAN, t_MAX_TRAINS := t_MAX_TRAINS, g_MAX_TRAINS := PySem.W.mg_of X G v_MAX_TRAINS, t_MAX_STATIONS := t_MAX_STATIONS, g_MAX_STATIONS := PySem.W.mg_of X G v_MAX_STATIONS, t_MAX_CALLS := t_MAX_CALLS, g_MAX_CALLS := PySem.W.mg_of X G v_MAX_CALLS, t_LETTERS := t_LETTERS, g_LETTERS := PySem.W.mg_of X G v_LETTERS, lc_NoTrain := qC_NoTrain, li_NoTrain := qI_NoTrain, low_NoTrain := { gC := PySem.W.mg_of X G q1_NoTrain, cls := ⟨qnm_NoTrain, qq_NoTrain, qN_NoTrain, qbs_NoTrain, _, qsn_NoTrain, qsub_NoTrain, qab_NoTrain, qcol_NoTrain, qdd_NoTrain, qm0_NoTrain, qm1_NoTrain, qm2_NoTrain, qm3_NoTrain, qm5_NoTrain, q2_NoTrain, (by exact (by decide +kernel : PySem.HandSPX.refsVE [.type "ValueError", .type "Exception", .type "BaseException", .type "object"] = true))⟩, sa := q3_NoTrain, ga := q4_NoTrain, gg := q5_NoTrain, noN := q6_NoTrain, iC := q7_NoTrain, tC := q8_NoTrain, kC := qb_NoTrain, exC := qc_NoTrain, tyC := qd_NoTrain, hdC := qe_NoTrain, te := exm_of qc_NoTrain qf_NoTrain qd_NoTrain qg_NoTrain, fn := ⟨_, _, _, _, _, _, _, _, _, _, _, _, _, _, q9_NoTrain, qa_NoTrain⟩ }, ex_NoTrain := ⟨q4_NoTrain, q5_NoTrain, qc_NoTrain, qe_NoTrain, qh_NoTrain, qi_NoTrain, qj_NoTrain, qk_NoTrain⟩, le_NoTrain := exm_of qc_NoTrain qf_NoTrain qd_NoTrain qg_NoTrain, n_len := PySem.W.mg_none_of X G z_len, n_int := PySem.W.mg_none_of X G z_int, n_abs := PySem.W.mg_none_of X G z_abs, n_range := PySem.W.mg_none_of X G z_range, n_enumerate := PySem.W.mg_none_of X G z_enumerate, n_list := PySem.W.mg_none_of X G z_list, n_repr := PySem.W.mg_none_of X G z_repr, n_tuple := PySem.W.mg_none_of X G z_tuple, n_isinstance := PySem.W.mg_none_of X G z_isinstance, n_bool := PySem.W.mg_none_of X G z_bool, n_str := PySem.W.mg_none_of X G z_str, n_all := PySem.W.mg_none_of X G z_all, n_zip := PySem.W.mg_none_of X G z_zip, n_set := PySem.W.mg_none_of X G z_set, n_sorted := PySem.W.mg_none_of X G z_sorted }, rfl, rfl⟩
  obtain ⟨T, h1, h2⟩ := T
  rw [← h1]
  refine ⟨T.fd_law, fun s v => ?_, fun base _ _ hnd => ok_law T hnd⟩
  rw [h2]
  exact .of_eq rfl
end K07
open PySem PySem.W PyProof.Rows
set_option maxRecDepth 100000 in
set_option maxHeartbeats 8000000 in
theorem PySem.Challenge.cw_risingsheets_k07_whole_calls_of_all_stat_holds : PySem.Challenge.rw_risingsheets_k07_whole_calls_of_all_stat.Holds := by
  w_on; o_law; k_head; (case hw => w_witness2)
  k_fill
  refine Dl.walk_ofG (l := PySem.Challenge.rw_risingsheets_k07_whole_calls_of_all_stat) (n := 63) (k := 8) (x := "script") (C := fun _ => L2.CX0) (sp := fun w => Dl.sp_law _) rfl (by decide) rfl ⟨rfl, by decide, by decide⟩ (fun w h Y => PySem.W.kIn_of Y) ?F (fun _ H a ns hl hO hS => Dl.law_end hl hO hS) (fun _ _ _ _ _ h => h)
  case F =>
    intro w mg fa h KX G hmg
    refine' K07.all_mk KX G hmg ?a_is_integer ?l_is_integer ?c_is_integer ?k_is_integer ?a_is_within ?l_is_within ?c_is_within ?k_is_within ?a_is_tuple_of ?l_is_tuple_of ?c_is_tuple_of ?k_is_tuple_of ?a_ascends ?l_ascends ?c_ascends ?k_ascends ?a_is_name ?l_is_name ?c_is_name ?k_is_name ?a_is_call ?l_is_call ?c_is_call ?k_is_call ?a_are_days ?l_are_days ?c_are_days ?k_are_days ?a_is_calendar ?l_is_calendar ?c_is_calendar ?k_is_calendar ?a_calls_error ?l_calls_error ?c_calls_error ?k_calls_error ?a_train_error ?l_train_error ?c_train_error ?k_train_error ?a_count_error ?l_count_error ?c_count_error ?k_count_error ?a_plan_error ?l_plan_error ?c_plan_error ?k_plan_error ?a_stations_of ?l_stations_of ?c_stations_of ?k_stations_of ?a_calls_at ?l_calls_at ?c_calls_at ?k_calls_at ?a_train_of ?l_train_of ?c_train_of ?k_train_of ?a_minute_of ?l_minute_of ?c_minute_of ?k_minute_of ?a__law_well ?l__law_well ?c__law_well ?k__law_well ?a__law_draw ?l__law_draw ?c__law_draw ?k__law_draw ?a__law_pick ?l__law_pick ?c__law_pick ?k__law_pick ?a__law_calendar ?l__law_calendar ?c__law_calendar ?k__law_calendar ?a__law_some ?l__law_some ?c__law_some ?k__law_some ?a__law_calls ?l__law_calls ?c__law_calls ?k__law_calls ?a__law_plan ?l__law_plan ?c__law_plan ?k__law_plan ?a__law_all ?l__law_all ?c__law_all ?k__law_all ?a__law_of_train ?l__law_of_train ?c__law_of_train ?k__law_of_train ?a__law_is_whole ?l__law_is_whole ?c__law_is_whole ?k__law_is_whole ?a_law ?l_law ?c_law ?k_law ?v_MAX_NAME ?v_MAX_NUMBER ?v_MAX_MINUTE ?v_MAX_SPAN ?v_MAX_TRAINS ?v_MAX_STATIONS ?v_MAX_CALLS ?v_LETTERS ?q1_NoTrain ?q2_NoTrain ?q3_NoTrain ?q4_NoTrain ?q5_NoTrain ?q6_NoTrain ?q7_NoTrain ?q8_NoTrain ?q9_NoTrain ?qa_NoTrain ?qb_NoTrain ?qc_NoTrain ?qd_NoTrain ?qe_NoTrain ?qf_NoTrain ?qg_NoTrain ?qh_NoTrain ?qi_NoTrain ?qj_NoTrain ?qk_NoTrain ?z_len ?z_int ?z_abs ?z_range ?z_enumerate ?z_list ?z_repr ?z_tuple ?z_isinstance ?z_bool ?z_str ?z_all ?z_zip ?z_set ?z_sorted
    (case a_is_integer => k_is)
    (case l_is_integer => k_is)
    (case c_is_integer => k_is)
    (case k_is_integer => k_is)
    (case a_is_within => k_is)
    (case l_is_within => k_is)
    (case c_is_within => k_is)
    (case k_is_within => k_is)
    (case a_is_tuple_of => k_is)
    (case l_is_tuple_of => k_is)
    (case c_is_tuple_of => k_is)
    (case k_is_tuple_of => k_is)
    (case a_ascends => k_is)
    (case l_ascends => k_is)
    (case c_ascends => k_is)
    (case k_ascends => k_is)
    (case a_is_name => k_is)
    (case l_is_name => k_is)
    (case c_is_name => k_is)
    (case k_is_name => k_is)
    (case a_is_call => k_is)
    (case l_is_call => k_is)
    (case c_is_call => k_is)
    (case k_is_call => k_is)
    (case a_are_days => k_is)
    (case l_are_days => k_is)
    (case c_are_days => k_is)
    (case k_are_days => k_is)
    (case a_is_calendar => k_is)
    (case l_is_calendar => k_is)
    (case c_is_calendar => k_is)
    (case k_is_calendar => k_is)
    (case a_calls_error => k_is)
    (case l_calls_error => k_is)
    (case c_calls_error => k_is)
    (case k_calls_error => k_is)
    (case a_train_error => k_is)
    (case l_train_error => k_is)
    (case c_train_error => k_is)
    (case k_train_error => k_is)
    (case a_count_error => k_is)
    (case l_count_error => k_is)
    (case c_count_error => k_is)
    (case k_count_error => k_is)
    (case a_plan_error => k_is)
    (case l_plan_error => k_is)
    (case c_plan_error => k_is)
    (case k_plan_error => k_is)
    (case a_stations_of => k_is)
    (case l_stations_of => k_is)
    (case c_stations_of => k_is)
    (case k_stations_of => k_is)
    (case a_calls_at => k_is)
    (case l_calls_at => k_is)
    (case c_calls_at => k_is)
    (case k_calls_at => k_is)
    (case a_train_of => k_is)
    (case l_train_of => k_is)
    (case c_train_of => k_is)
    (case k_train_of => k_is)
    (case a_minute_of => k_is)
    (case l_minute_of => k_is)
    (case c_minute_of => k_is)
    (case k_minute_of => k_is)
    (case a__law_well => k_is)
    (case l__law_well => k_is)
    (case c__law_well => k_is)
    (case k__law_well => k_is)
    (case a__law_draw => k_is)
    (case l__law_draw => k_is)
    (case c__law_draw => k_is)
    (case k__law_draw => k_is)
    (case a__law_pick => k_is)
    (case l__law_pick => k_is)
    (case c__law_pick => k_is)
    (case k__law_pick => k_is)
    (case a__law_calendar => k_is)
    (case l__law_calendar => k_is)
    (case c__law_calendar => k_is)
    (case k__law_calendar => k_is)
    (case a__law_some => k_is)
    (case l__law_some => k_is)
    (case c__law_some => k_is)
    (case k__law_some => k_is)
    (case a__law_calls => k_is)
    (case l__law_calls => k_is)
    (case c__law_calls => k_is)
    (case k__law_calls => k_is)
    (case a__law_plan => k_is)
    (case l__law_plan => k_is)
    (case c__law_plan => k_is)
    (case k__law_plan => k_is)
    (case a__law_all => k_is)
    (case l__law_all => k_is)
    (case c__law_all => k_is)
    (case k__law_all => k_is)
    (case a__law_of_train => k_is)
    (case l__law_of_train => k_is)
    (case c__law_of_train => k_is)
    (case k__law_of_train => k_is)
    (case a__law_is_whole => k_is)
    (case l__law_is_whole => k_is)
    (case c__law_is_whole => k_is)
    (case k__law_is_whole => k_is)
    (case a_law => k_is)
    (case l_law => k_is)
    (case c_law => k_is)
    (case k_law => k_is)
    (case v_MAX_NAME => k_is)
    (case v_MAX_NUMBER => k_is)
    (case v_MAX_MINUTE => k_is)
    (case v_MAX_SPAN => k_is)
    (case v_MAX_TRAINS => k_is)
    (case v_MAX_STATIONS => k_is)
    (case v_MAX_CALLS => k_is)
    (case v_LETTERS => k_is)
    (case q1_NoTrain => k_is)
    (case q2_NoTrain => k_is)
    (case q3_NoTrain => k_is)
    (case q4_NoTrain => k_is)
    (case q5_NoTrain => k_is)
    (case q6_NoTrain => k_is)
    (case q7_NoTrain => k_is)
    (case q8_NoTrain => k_is)
    (case q9_NoTrain => k_is)
    (case qa_NoTrain => k_is)
    (case qb_NoTrain => k_is)
    (case qc_NoTrain => k_is)
    (case qd_NoTrain => k_is)
    (case qe_NoTrain => k_is)
    (case qf_NoTrain => k_is)
    (case qg_NoTrain => first | rfl | k_is)
    (case qh_NoTrain => k_is)
    (case qi_NoTrain => k_is)
    (case qj_NoTrain => k_is)
    (case qk_NoTrain => k_is)
    (case z_len => k_is)
    (case z_int => k_is)
    (case z_abs => k_is)
    (case z_range => k_is)
    (case z_enumerate => k_is)
    (case z_list => k_is)
    (case z_repr => k_is)
    (case z_tuple => k_is)
    (case z_isinstance => k_is)
    (case z_bool => k_is)
    (case z_str => k_is)
    (case z_all => k_is)
    (case z_zip => k_is)
    (case z_set => k_is)
    (case z_sorted => k_is)

