import PyProof.Rows.All
import Wide.All
import OpenK.AllK
import Wide.FinOn
import HandS.ForMost
import HandS.Exc
import HandS.ExcInit
import PyProof.ReprRoads
import HandS.WideBits
import HandS.Wide
import HandS.Style
import HandS.IsInst
import HandS.Walk
import HandS.FStrTup
import HandS.Gcd
import HandS.Star
import HandS.WordsDict
import HandS.TupAny
import HandS.TupMul
import HandS.SetFor
import HandS.Zip
import PyProof.WalkInts
import KE.GoesMore
import KE.GoesEnum
import HandS.Conv
import HandS.Text
import PySem.Challenge.RW_backwalks_k07_rings_of_anything_and_prod
set_option Elab.async false
set_option linter.all false
set_option maxRecDepth 100000
set_option maxHeartbeats 8000000
/-! Part 0. Defs that are run where no printing is under way (the guards are known to be none). -/
namespace Bw
open PySem PySem.Spec PyProof.Rows L2

/-- as a def's promise, for callers whose guards are none -/
structure FnG (P : Program) (w : World) (K : PySem.W.Frag) (mg : Str → Option Value) (base : Heap)
    (k : Nat) (f : Addr) (fd : FuncData) (ps : List Str) (sp : Sp) : Prop where
  len : ∀ vs H Q E, sp vs H Q E → vs.length = ps.length
  run : ∀ (A : Around) (outer : List Env) (s : Shared) (H : Hp) (args : Args) (us : List Value) (vs : List V)
    (Q : VK) (E : XK), A.guards = some [] → Room k A → Env0 P w K mg base A outer s H →
    BindsTo s fd args (ps.zip us) → Vals vs us → sp vs H Q E →
    codeAny (model P w) A (.call (.ref f) args) (CR CX0 outer P w H s Q E) s

theorem FnG.of {P : Program} {w : World} {K : PySem.W.Frag} {mg : Str → Option Value} {base : Heap}
    {k : Nat} {f : Addr} {fd : FuncData} {ps : List Str} {sp : Sp}
    (F : FnOk P w K mg base CX0 k f fd ps sp) : FnG P w K mg base k f fd ps sp :=
  ⟨F.len, fun A outer s H args us vs Q E _ hr he hb hv hs => F.run A outer s H args us vs Q E hr he hb hv hs⟩

section
variable {X : Cx} {k : Nat} {f : Addr} {fd : FuncData} {ps : List Str} {sp : Sp} {x : Str} {p pos : Pos}
  {e : Expr} {es : List Expr} {t : TA}

/-- what a guarded callee leaves -/
theorem runG {pins : List (Addr × Obj)} {σ : L2.St} {H : Hp} {s : Shared} {Q : VK} {us : List Value} {vs : List V}
    (F : FnG X.prog X.w X.K X.mg X.base k f fd ps sp) (hG : X.A.guards = some []) (hr : Room k X.A)
    (hb : Binds X.K fd ps []) (I : Inv X pins σ H s) (r : Vals vs us) (h : sp vs H Q E0) :
    wpAny (model X.prog X.w) X.A (call (.ref f) us) (EP X pins σ Q) X.xe s := by
  have hl : (us ++ []).length = ps.length := by
    rw [List.append_nil, ← r.length]
    exact F.len _ _ _ _ h
  have hb' := hb s us I.kIn hl
  rw [List.append_nil] at hb'
  refine wpAny_call (codeAny_mono
    (F.run X.A X.stack s H ⟨us, []⟩ us vs Q E0 hG hr I.env0 hb' r h) fun q s' hq => ?_)
  match q, hq with
  | .error _, hq => exact False.elim hq
  | .ok (.ret _), hq => exact I.after hq
  | .ok .next, hq => exact False.elim hq
  | .ok .brk, hq => exact False.elim hq
  | .ok .cont, hq => exact False.elim hq

theorem pe_callG (F : FnG X.prog X.w X.K X.mg X.base k f fd ps sp) (hG : X.A.guards = some []) (hr : Room k X.A)
    (hg : Gl X x) (hm : X.mg x = some (.ref f)) (hk : PySem.W.keepIn X.K (.ref f) = true)
    (hb : Binds X.K fd ps []) (ha : PA X (e :: es) t)
    (hdb : (x == ("__debug__" : Str)) = false := by decide)
    (he : starEach (e :: es) X.env = (false, eval e X.env) :: starEach es X.env := by rfl)
    (hpl : (backTo pos (starEach es X.env)).any (·.1) = false := by rfl) :
    PE X (.Call (.Name x p) (e :: es) [] pos) (tCall sp [] E0 t) := by
  refine ⟨fun pins s σ H Q I h => wpAny_Call_Name_kw (ld_glob I hg hm ?_ hdb)⟩
  refine PySem.W.callWith_K (h₀ := X.base) I.ok.mod.kin hk
    (thn (ha.run pos pins s σ H _ I h) fun us s1 ⟨vs, H1, I1, r, q⟩ => ⟨I1.kIn, ?_⟩) he hpl
  refine runG F hG hr hb I1 r ?_
  rw [← List.append_nil vs]
  exact q
end

/-- a def of the text, by its body, where the guards are none -/
theorem okG {P : Program} {w : World} {K : PySem.W.Frag} {mg : Str → Option Value} {base : Heap}
    {x qual : Str} {st : Stmt} {f : Addr} {fd : FuncData} {N ps : List Str} {k : Nat} {sp : Sp}
    (F : Fun K x qual st f fd) (S : FnScope N ps (defScope st))
    (len : ∀ vs H Q E, sp vs H Q E → vs.length = ps.length)
    (hbody : ∀ (cdv : Value) (A : Around) (outer : List Env) (s : Shared) (H : Hp) (vs : List V) (Q : VK) (E : XK),
      A.guards = some [] → Room k (A.deeper (envOfC qual (defScope st) s.heap.objs.size f cdv)) → sp vs H Q E →
      ∃ t, PSs (cxOf CX0 P w K mg base N qual (defScope st) f cdv A outer s H E).nox (defBody st) t ∧
        t { nx := fun _ H' => Q .non H', rt := Q } (start N vs) H) :
    FnG P w K mg base (k + 1) f fd ps sp := by
  obtain ⟨oc, od, kV, doc, pm, an, cdv, ct, osl, rfl, lk, hcd⟩ := F.ex
  refine ⟨len, ?_⟩
  intro A outer s H args us vs Q E hG hr e0 hb r hsp
  have hl := len _ _ _ _ hsp
  have keepB : ∀ b o, base.get? b = some o → s.heap.get? b = some o := fun b o e => (e0.bs b o e).1
  have KX : K.In s.heap := e0.mod.kin.keeps keepB
  have lim : s.heap.NoLimit := e0.mod.nolimit.keeps keepB
  refine codeAny_call_function hr.depth (KX _ _ lk) rfl S.co S.gen rfl (PySem.W.codeRec_of KX hcd)
    (hb _ _ _ _ ?_)
  refine wpAny_newFunctionEnv_cells S.kind (fun y hy => ?_) fun env he s1 x => ?_
  · obtain ⟨n, v⟩ := y
    cases S.par n (List.of_mem_zip hy).1 with
    | inl q => exact .inl q
    | inr q => exact .inr ⟨q, PySem.W.cellsFrom_some _ _ _ (.inl q)⟩
  subst he
  refine ⟨lim.keeps x.toInCall.keep, codeAny_func ?_⟩
  obtain ⟨t, ht, hq⟩ := hbody cdv A outer s H vs Q E hG (hr.deeper _) hsp
  have I := inv_start (CX := CX0) (P := P) (w := w) (K := K) (mg := mg) (base := base) (N := N) (qual := qual)
    (cd := cdv) (E := E) (f := f) S hr.hd e0 hl r x
  refine wpAny_mono (ht.nox.run [] s1 (start N vs) H _ I hq) (fun fl s' hs => ?_) fun e s' hs => hs
  match fl, hs with
  | .ret _, ⟨v, _, H', J, rv, q⟩ => exact ⟨v, H', J.os, J.bare, J.base, J.hok, rv, q⟩
  | .next, ⟨_, H', J, q⟩ => exact ⟨.non, H', J.os, J.bare, J.base, J.hok, rfl, q⟩
  | .brk, ⟨_, _, _, q⟩ => exact False.elim q
  | .cont, ⟨_, _, _, q⟩ => exact False.elim q

/-! ### the law's own call -/
section
variable {P : Program} {w : World} {K : PySem.W.Frag} {mg mb : Str → Option Value} {k : Nat} {fa a : Addr}
  {fd : FuncData} {x : Str} {sp : Sp} {s₁ : Shared} {vs : List Value} {ns : List Int}

/-- the heap that knows the script alone, or nothing -/
def scriptH (a : Addr) (o : Option HO) : Hp := fun b => if b = a then o else none

theorem scriptH_same {a : Addr} {o : Option HO} : scriptH a o a = o := if_pos rfl
theorem scriptH_ne {a b : Addr} {o : Option HO} (h : b ≠ a) : scriptH a o b = none := if_neg h

abbrev LawEnd (s₁ : Shared) (r : Result) (s' : Shared) : Prop :=
  r = .ok (.ret (.bool true)) ∧ OldK s₁.heap s'.heap ∧ s'.os = s₁.os ∧ AllBare s'.gens

theorem law_runG (KX : K.In s₁.heap) (hns : s₁.heap.Ns mainGlobals mg) (hb : s₁.heap.Ns builtinsNs mb)
    (hbb : ∀ x : Str, x ≠ "__name__" → mb x = bootBuiltins x) (hlim : s₁.heap.NoLimit) (hg : s₁.gens = #[])
    (ha : s₁.heap.get? a = some { cls := .type "list", data := .seq vs.toArray }) (hr : Room k callerA)
    (F : ∀ base : Heap, K.In base → base.Ns mainGlobals mg → FnG P w K mg base k fa fd [x] sp)
    (hbind : ∀ (s : Shared) (u : Value), BindsTo s fd ⟨[u], []⟩ [(x, u)])
    {H : Hp} (hO : Only H) (hok : HOk P w H s₁.heap) (hA : ∀ b, H b ≠ none → b = a)
    (hK : H a ≠ none → K.lookup a = none) (hsp : sp [.ref a] H (fun v _ => v = .bl true) E0) :
    codeAny (model P w) callerA (.call (.ref fa) ⟨[.ref a], []⟩) (LawEnd s₁) s₁ := by
  have only_a : ∀ {b : Addr}, b ≠ a → H b = none := fun {b} ne => by
    cases q : H b with
    | none => rfl
    | some u => exact absurd (hA b (by rw [q]; exact fun z => nomatch z)) ne
  have noDict : ∀ {b : Addr} {o : Obj} {es : Array DictEntry} {ep : Nat},
      s₁.heap.get? b = some o → o.data = .dict es ep → H b = none := fun {b o es ep} e d => by
    by_cases hb : b = a
    · rw [hb, ha] at e
      cases e
      have d' : Data.seq vs.toArray _ = Data.dict es ep := d
      cases d'
    · exact only_a hb
  have toNs : ∀ {b : Addr} {m : Str → Option Value}, s₁.heap.Ns b m → (hidT s₁.heap H).Ns b m :=
    fun {b m} ⟨o, es, ep, e, d, r⟩ => ⟨o, es, ep, hidT_get e (noDict e d), d, r⟩
  have hKb : K.In (hidT s₁.heap H) := fun b o e => by
    refine hidT_get (KX b o e) ?_
    by_cases hb : b = a
    · cases q : H b with
      | none => rfl
      | some u =>
        rw [hb] at e q
        rw [hK (by rw [q]; exact fun z => nomatch z)] at e
        cases e
    · exact only_a hb
  have hM : Mod K mg (hidT s₁.heap H) := by
    refine ⟨hKb, toNs hns, ⟨mb, toNs hb, hbb⟩, ?_⟩
    obtain ⟨mc, h1, h2⟩ := hlim
    exact ⟨mc, toNs h1, h2⟩
  have noA : ∀ b : Addr, b ∉ frs [] := fun b z => absurd (show b ∈ ([] : List Addr) from z) (by simp)
  have e0 : Env0 P w K mg (hidT s₁.heap H) callerA [] s₁ H :=
    ⟨rfl, hM, fun b o e => of_hidT e, Nat.le_of_eq (hidT_size _ _), trivial,
      fun b z => absurd z (noA b), hok, .of_eq hg⟩
  refine codeAny_mono ((F _ hKb (toNs hns)).run callerA [] s₁ H ⟨[.ref a], []⟩ [.ref a] [.ref a] _ _
    rfl hr e0 (hbind s₁ (.ref a)) (.cons rfl .nil) hsp) fun r s' h => ?_
  match r, h with
  | .error _, h => exact False.elim h
  | .ok .next, h => exact False.elim h
  | .ok .brk, h => exact False.elim h
  | .ok .cont, h => exact False.elim h
  | .ok (.ret u), ⟨v, H', os, bare, un, hok', rv, q⟩ =>
    have q' : v = .bl true := q
    subst q'
    obtain rfl : u = Value.bool true := rv
    refine ⟨rfl, OldK.of_keep fun b o e => ?_, os, bare⟩
    cases q : H b with
    | none => exact un.keep b o e q (noA b) (by simp)
    | some u =>
      rcases hO b with z | ⟨ob, xs, z⟩
      · rw [q] at z
        cases z
      · obtain ⟨e1, _⟩ := hok b _ z
        obtain ⟨e2, _⟩ := hok' b _ (un.frzs b ob _ z)
        rw [e] at e1
        cases e1
        exact e2

theorem law_callG (KX : K.In s₁.heap) (hns : s₁.heap.Ns mainGlobals mg) (hb : s₁.heap.Ns builtinsNs mb)
    (hbb : ∀ x : Str, x ≠ "__name__" → mb x = bootBuiltins x) (hlim : s₁.heap.NoLimit) (hg : s₁.gens = #[])
    (ha : s₁.heap.get? a = some { cls := .type "list", data := .seq vs.toArray }) (hi : IntsAre vs ns)
    (hl : ns.length ≤ sizeLine) (hr : Room k callerA)
    (F : ∀ base : Heap, K.In base → base.Ns mainGlobals mg → FnG P w K mg base k fa fd [x] sp)
    (hbind : ∀ (s : Shared) (u : Value), BindsTo s fd ⟨[u], []⟩ [(x, u)])
    (hsp : ∀ H : Hp, Only H → SqL K H a (ns.map V.int) → sp [.ref a] H (fun v _ => v = .bl true) E0) :
    codeAny (model P w) callerA (.call (.ref fa) ⟨[.ref a], []⟩) (LawEnd s₁) s₁ := by
  have rv := vals_ints hi
  have lenV := hi.length
  cases hk : K.lookup a with
  | some o =>
    have e := KX a o hk
    rw [ha] at e
    cases e
    refine law_runG (H := fun _ => none) KX hns hb hbb hlim hg ha hr F hbind (fun _ => .inl rfl)
      (fun b u z => nomatch (show (none : Option HO) = some u from z)) (fun b z => absurd rfl z) (fun z => absurd rfl z) (hsp _ (fun _ => .inl rfl) ?_)
    exact .inr ⟨_, vs.toArray, _, hk, rfl, rfl, rfl, by rw [List.size_toArray, lenV]; exact hl, by simpa using rv⟩
  | none =>
    have only : Only (scriptH a (some (.frz { cls := .type "list", data := .seq vs.toArray } (.lst (ns.map V.int))))) := fun b => by
      by_cases hb : b = a
      · exact .inr ⟨_, _, by rw [hb]; exact scriptH_same⟩
      · exact .inl (scriptH_ne hb)
    refine law_runG KX hns hb hbb hlim hg ha hr F hbind only (fun b u z => ?_) (fun b z => ?_) (fun _ => hk)
      (hsp _ only (.inl (.inr ⟨_, scriptH_same⟩)))
    · by_cases hb : b = a
      · rw [hb, scriptH_same] at z
        cases z
        rw [hb]
        exact ⟨ha, by rw [List.length_map]; exact hl, vs, _, rv, ha⟩
      · rw [scriptH_ne hb] at z
        cases z
    · by_cases hb : b = a
      · exact hb
      · exact absurd (scriptH_ne hb) z
end

/-- the end of a law's row, by a guarded promise -/
theorem walk_G {l : PySem.W.OpenLaw} {n k : Nat} {q : Program} {loose : List Str}
    {XP : (Str → Option Value) → Heap → Prop} {YP : World → Heap → Prop} {d : DefRec} {K : Params → PySem.W.Frag}
    {sp : PySem.W.Frag → Sp} {x : Str} (hn : l.most = some n) (hn2 : n ≤ sizeLine) (hdf : d.params.defaults = [])
    (hr : Room k callerA) (hY : ∀ (w : World) (h : Heap), YP w h → (K w.params).In h)
    (F : ∀ (w : World) (mg : Str → Option Value) (fa : Addr) (h : Heap), (K w.params).In h → h.Ns mainGlobals mg →
      mg d.name = some (.ref fa) → ∃ fd : FuncData, (∀ (s : Shared) (u : Value), BindsTo s fd ⟨[u], []⟩ [(x, u)]) ∧
        ∀ base : Heap, (K w.params).In base → base.Ns mainGlobals mg →
          FnG l.prog w (K w.params) mg base k fa fd [x] (sp (K w.params)))
    (hsp : ∀ (K : PySem.W.Frag) (H : Hp) (a : Addr) (ns : List Int), ns.length ≤ n → Only H →
      SqL K H a (ns.map V.int) → sp K [.ref a] H (fun v _ => v = .bl true) E0) :
    PySem.W.WalkO q loose XP YP l.row.toRowW d [] (fun f vs => PySem.call f vs) := by
  refine Att.attach_call hn hdf ?_
  intro w s₀ s₁ mg mb fa o pm cd doc a vs ns G Y ho hd hcd hmg hobj hints hlen hg
  have KX := hY w _ Y
  obtain ⟨fd, hb, hF⟩ := F w mg fa _ KX G.T.g hmg
  exact law_callG KX G.T.g G.T.b G.T.builtins G.T.nolimit hg hobj hints (Nat.le_trans hlen hn2) hr hF hb
    fun H hO hS => hsp _ H a ns hlen hO hS
end Bw
/-! Part 1. Data that stands in the abstract heap, dicts too, apart from what may change; its printing. -/
namespace Bw
open PySem PySem.Spec PyProof.Rows L2

/-- all that H knows but at W stands in H' -/
def Kp (W : Addr → Prop) (H H' : Hp) : Prop := ∀ a o, ¬ W a → H a = some o → H' a = some o
theorem Kp.refl {W : Addr → Prop} (H : Hp) : Kp W H H := fun _ _ _ e => e
theorem Kp.trans {W : Addr → Prop} {H H1 H2 : Hp} (a : Kp W H H1) (b : Kp W H1 H2) : Kp W H H2 :=
  fun x o n e => b x o n (a x o n e)
theorem Kp.new {W : Addr → Prop} {H : Hp} {p : Addr} {o : HO} (h : H p = none) : Kp W H (upd H p o) := fun a u _ e => by
  rw [upd_ne (ne_of_none e h)]
  exact e
theorem Kp.mut {W : Addr → Prop} {H : Hp} {p : Addr} {o : HO} (h : W p) : Kp W H (upd H p o) := fun a u n e => by
  rw [upd_ne (fun z : a = p => n (by rw [z]; exact h))]
  exact e
theorem Kp.same {W : Addr → Prop} {H H' : Hp} (h : Same H H') : Kp W H H' := fun a o _ e => h a o e
/-- what was not known before may change -/
theorem Kp.upd {W : Addr → Prop} {H H' : Hp} {p : Addr} {o : HO} (e : Kp W H H') (h : H p = none) : Kp W H (L2.upd H' p o) :=
  fun a u n q => by
    rw [upd_ne (ne_of_none q h)]
    exact e a u n q
theorem Kp.mono {W W' : Addr → Prop} {H H' : Hp} (e : Kp W H H') (h : ∀ a, W a → W' a) : Kp W' H H' :=
  fun a o n q => e a o (fun z => n (h a z)) q

def keyD : Key → PyData
  | .inl i => .int i
  | .inr x => .str x

mutual
inductive Dq (W : Addr → Prop) (H : Hp) : V → PyData → Prop
  | non : Dq W H .non .none
  | bl (b : Bool) : Dq W H (.bl b) (.bool b)
  | int (i : Int) : Dq W H (.int i) (.int i)
  | str (x : Str) : Dq W H (.str x) (.str x)
  | lst {a : Addr} {xs : List V} {ds : List PyData} : ¬ W a → H a = some (.lst xs) → DqAll W H xs ds → Dq W H (.ref a) (.list ds)
  | tup {a : Addr} {xs : List V} {ds : List PyData} : ¬ W a → H a = some (.tup xs) → DqAll W H xs ds → Dq W H (.ref a) (.tuple ds)
  | dct {a : Addr} {kvs : List (Key × V)} {ds : List PyData} : ¬ W a → H a = some (.dK kvs) → DqAll W H (kvs.map (·.2)) ds →
      Dq W H (.ref a) (.dict ((kvs.map fun kv => keyD kv.1).zip ds))
inductive DqAll (W : Addr → Prop) (H : Hp) : List V → List PyData → Prop
  | nil : DqAll W H [] []
  | cons {v : V} {vs : List V} {d : PyData} {ds : List PyData} : Dq W H v d → DqAll W H vs ds → DqAll W H (v :: vs) (d :: ds)
end

mutual
theorem Dq.keep {W : Addr → Prop} {H H' : Hp} (k : Kp W H H') : ∀ {v : V} {d : PyData}, Dq W H v d → Dq W H' v d
  | _, _, .non => .non
  | _, _, .bl b => .bl b
  | _, _, .int i => .int i
  | _, _, .str x => .str x
  | _, _, .lst n e h => .lst n (k _ _ n e) (DqAll.keep k h)
  | _, _, .tup n e h => .tup n (k _ _ n e) (DqAll.keep k h)
  | _, _, .dct n e h => .dct n (k _ _ n e) (DqAll.keep k h)
theorem DqAll.keep {W : Addr → Prop} {H H' : Hp} (k : Kp W H H') : ∀ {vs : List V} {ds : List PyData}, DqAll W H vs ds → DqAll W H' vs ds
  | _, _, .nil => .nil
  | _, _, .cons h t => .cons (Dq.keep k h) (DqAll.keep k t)
end
mutual
theorem Dq.weak {W W' : Addr → Prop} {H : Hp} (k : ∀ a, W a → W' a) : ∀ {v : V} {d : PyData}, Dq W' H v d → Dq W H v d
  | _, _, .non => .non
  | _, _, .bl b => .bl b
  | _, _, .int i => .int i
  | _, _, .str x => .str x
  | _, _, .lst n e h => .lst (fun z => n (k _ z)) e (DqAll.weak k h)
  | _, _, .tup n e h => .tup (fun z => n (k _ z)) e (DqAll.weak k h)
  | _, _, .dct n e h => .dct (fun z => n (k _ z)) e (DqAll.weak k h)
theorem DqAll.weak {W W' : Addr → Prop} {H : Hp} (k : ∀ a, W a → W' a) : ∀ {vs : List V} {ds : List PyData}, DqAll W' H vs ds → DqAll W H vs ds
  | _, _, .nil => .nil
  | _, _, .cons h t => .cons (Dq.weak k h) (DqAll.weak k t)
end
theorem DqAll.length {W : Addr → Prop} {H : Hp} : ∀ {vs : List V} {ds : List PyData}, DqAll W H vs ds → vs.length = ds.length
  | _, _, .nil => rfl
  | _, _, .cons _ t => congrArg (· + 1) t.length
theorem DqAll.rep {W : Addr → Prop} {H : Hp} {v : V} {d : PyData} (h : Dq W H v d) : ∀ n : Nat, DqAll W H (List.replicate n v) (List.replicate n d)
  | 0 => .nil
  | n + 1 => .cons h (DqAll.rep h n)
theorem DqAll.app {W : Addr → Prop} {H : Hp} {vs ws : List V} {ds es : List PyData} : DqAll W H vs ds → DqAll W H ws es → DqAll W H (vs ++ ws) (ds ++ es)
  | .nil, k => k
  | .cons h t, k => .cons h (t.app k)
theorem DqAll.bls {W : Addr → Prop} {H : Hp} : ∀ bs : List Bool, DqAll W H (bs.map V.bl) (bs.map PyData.bool)
  | [] => .nil
  | b :: r => .cons (.bl b) (DqAll.bls r)
theorem DqAll.at {W : Addr → Prop} {H : Hp} : ∀ {vs : List V} {ds : List PyData} {i : Nat} {v : V}, DqAll W H vs ds → vs[i]? = some v → ∃ d, ds[i]? = some d ∧ Dq W H v d
  | _, _, _, _, .nil, e => by simp at e
  | _, _, 0, _, .cons h _, e => by
    simp at e
    subst e
    exact ⟨_, rfl, h⟩
  | _, _, i + 1, _, .cons _ t, e => t.at (i := i) e

/-! ### what is read off the heap, dicts other than that of the modules -/
mutual
inductive RdS (h : Heap) : Value → PyData → Prop
  | none : RdS h .none .none
  | bool (b) : RdS h (.bool b) (.bool b)
  | int (i t) : RdS h (.int i t) (.int i)
  | str (x t) : RdS h (.str x t) (.str x)
  | list {a o vs n xs} : h.get? a = some o → o.cls = .type "list" → o.data = .seq vs n → RdSAll h vs.toList xs → RdS h (.ref a) (.list xs)
  | tuple {a o vs n xs} : h.get? a = some o → o.cls = .type "tuple" → o.data = .seq vs n → RdSAll h vs.toList xs → RdS h (.ref a) (.tuple xs)
  | dict {a o es n kvs} : h.get? a = some o → o.cls = .type "dict" → o.data = .dict es n → (a == sysModules) = false →
      RdSAll h (es.toList.map (·.key)) (kvs.map (·.1)) → RdSAll h (es.toList.map (·.val)) (kvs.map (·.2)) → RdS h (.ref a) (.dict kvs)
inductive RdSAll (h : Heap) : List Value → List PyData → Prop
  | nil : RdSAll h [] []
  | cons {v vs d ds} : RdS h v d → RdSAll h vs ds → RdSAll h (v :: vs) (d :: ds)
end
mutual
theorem RdS.reads {h : Heap} : ∀ {v : Value} {d : PyData}, RdS h v d → ∃ as, Reads h v d as
  | _, _, .none => ⟨_, .none⟩
  | _, _, .bool b => ⟨_, .bool b⟩
  | _, _, .int i t => ⟨_, .int i t⟩
  | _, _, .str x t => ⟨_, .str x t⟩
  | _, _, .list h1 h2 h3 h4 => let ⟨_, q⟩ := RdSAll.reads h4; ⟨_, .list h1 h2 h3 q⟩
  | _, _, .tuple h1 h2 h3 h4 => let ⟨_, q⟩ := RdSAll.reads h4; ⟨_, .tuple h1 h2 h3 q⟩
  | _, _, .dict h1 h2 h3 _ h4 h5 => let ⟨_, q⟩ := RdSAll.reads h4; let ⟨_, r⟩ := RdSAll.reads h5; ⟨_, .dict h1 h2 h3 q r⟩
theorem RdSAll.reads {h : Heap} : ∀ {vs : List Value} {ds : List PyData}, RdSAll h vs ds → ∃ as, ReadsAll h vs ds as
  | _, _, .nil => ⟨_, .nil⟩
  | _, _, .cons h1 h2 => let ⟨_, q⟩ := RdS.reads h1; let ⟨_, r⟩ := RdSAll.reads h2; ⟨_, .cons q r⟩
end

section
variable {prog : Program} {w : World} {h₀ : Heap}
mutual
theorem RdS.reprK : ∀ {v : Value} {d : PyData}, RdS h₀ v d → d.showable = true → d.shown.length ≤ sizeLine →
    ∃ bs, ReadAtMost h₀ d.depth bs ∧ ReprK prog w bs h₀ d.depth v d.shown
  | _, _, .none, _, _ => ⟨[], (fun _ h => nomatch h), by simp only [PyData.shown]; exact .of_is ReprIs.none _ _ _⟩
  | _, _, .bool b, _, _ => ⟨[], (fun _ h => nomatch h), by simp only [PyData.shown]; exact .of_is (ReprIs.bool b) _ _ _⟩
  | _, _, .int i t, hs, _ =>
    ⟨[], (fun _ h => nomatch h), by simp only [PyData.shown]; exact .of_is (ReprIs.int t (by simpa [PyData.showable] using hs)) _ _ _⟩
  | _, _, .str x t, _, hz =>
    ⟨[], (fun _ h => nomatch h), by simp only [PyData.shown]; exact .of_is (ReprIs.str x t (by simpa only [PyData.shown] using hz)) _ _ _⟩
  | _, _, .list (a := a) (vs := vs) (xs := xs) h1 h2 h3 h4, hs, hz => by
    have hz' : (listText (PyData.shownAll xs)).length ≤ sizeLine := by simpa only [PyData.shown] using hz
    obtain ⟨bs, hb, hk⟩ := RdSAll.reprK h4 (by simpa [PyData.showable] using hs) fun t ht => Nat.le_trans (listText_mem_le ht) hz'
    obtain ⟨_, r⟩ := RdS.reads (.list h1 h2 h3 h4)
    have deep : PyData.depthAll xs < (PyData.list xs).depth := by simp only [PyData.depth]; omega
    refine ⟨a :: bs, ReadAtMost.cons r (Nat.le_of_lt deep) hb, ?_⟩
    simp only [PyData.depth, PyData.shown]
    obtain ⟨l⟩ := vs
    cases l with
    | nil =>
      have h4' : RdSAll h₀ [] xs := h4
      cases h4'
      simp only [PyData.shownAll, listText_nil]
      exact ReprK.listEmpty h1 h2 h3
    | cons x l =>
      exact ReprK.list h1 h2 h3 (not_mem_of_deeper r deep hb) (by simpa using hk.length_eq) fun i y e => hk.item i y (by simpa using e)
  | _, _, .tuple (a := a) (xs := xs) h1 h2 h3 h4, hs, hz => by
    have hz' : (tupleText (PyData.shownAll xs)).length ≤ sizeLine := by simpa only [PyData.shown] using hz
    obtain ⟨bs, hb, hk⟩ := RdSAll.reprK h4 (by simpa [PyData.showable] using hs) fun t ht => Nat.le_trans (tupleText_mem_le ht) hz'
    obtain ⟨_, r⟩ := RdS.reads (.tuple h1 h2 h3 h4)
    have deep : PyData.depthAll xs < (PyData.tuple xs).depth := by simp only [PyData.depth]; omega
    refine ⟨a :: bs, ReadAtMost.cons r (Nat.le_of_lt deep) hb, ?_⟩
    simp only [PyData.depth, PyData.shown]
    exact ReprK.tuple h1 h2 h3 (not_mem_of_deeper r deep hb) hk
  | _, _, .dict (a := a) (es := es) (kvs := kvs) h1 h2 h3 hsys h4 h5, hs, hz => by
    have hz' : (dictText (PyData.shownKv kvs)).length ≤ sizeLine := by simpa only [PyData.shown] using hz
    obtain ⟨hs1, hs2⟩ := PyData.showableKv_split kvs (by simpa [PyData.showable] using hs)
    have le_key : ∀ t ∈ PyData.shownAll (kvs.map (·.1)), t.length ≤ sizeLine := fun t ht => by
      obtain ⟨p, hp, hl⟩ := PyData.shownKv_key_le kvs t ht
      exact Nat.le_trans hl (Nat.le_trans (dictText_mem_le hp) hz')
    have le_val : ∀ t ∈ PyData.shownAll (kvs.map (·.2)), t.length ≤ sizeLine := fun t ht => by
      obtain ⟨p, hp, hl⟩ := PyData.shownKv_val_le kvs t ht
      exact Nat.le_trans hl (Nat.le_trans (dictText_mem_le hp) hz')
    obtain ⟨b1, hb1, k1⟩ := RdSAll.reprK h4 hs1 le_key
    obtain ⟨b2, hb2, k2⟩ := RdSAll.reprK h5 hs2 le_val
    obtain ⟨_, r⟩ := RdS.reads (.dict h1 h2 h3 hsys h4 h5)
    have hb : ReadAtMost h₀ (PyData.depthKv kvs) (b1 ++ b2) :=
      (hb1.mono (PyData.depthAll_keys_le kvs)).append (hb2.mono (PyData.depthAll_vals_le kvs))
    have deep : PyData.depthKv kvs < (PyData.dict kvs).depth := by simp only [PyData.depth]; omega
    refine ⟨a :: (b1 ++ b2), ReadAtMost.cons r (Nat.le_of_lt deep) hb, ?_⟩
    simp only [PyData.depth, PyData.shown, PyData.shownKv_eq]
    refine ReprK.dict h1 h2 h3 hsys (not_mem_of_deeper r deep hb) (ReprEntriesK.of_two es.toList _ _ ?_ ?_)
    · exact k1.more_le (fun b hb => List.mem_append_left _ hb) (PyData.depthAll_keys_le kvs)
    · exact k2.more_le (fun b hb => List.mem_append_right _ hb) (PyData.depthAll_vals_le kvs)
theorem RdSAll.reprK : ∀ {vs : List Value} {ds : List PyData}, RdSAll h₀ vs ds → PyData.showableAll ds = true → (∀ t ∈ PyData.shownAll ds, t.length ≤ sizeLine) →
    ∃ bs, ReadAtMost h₀ (PyData.depthAll ds) bs ∧ ReprAllK prog w bs h₀ (PyData.depthAll ds) vs (PyData.shownAll ds)
  | _, _, .nil, _, _ => ⟨[], (fun _ h => nomatch h), by simp only [PyData.shownAll]; exact .nil⟩
  | _, _, .cons (d := d) (ds := ds) r rs, hs, hz => by
    have hs' : d.showable = true ∧ PyData.showableAll ds = true := by simpa [PyData.showableAll] using hs
    obtain ⟨b1, hb1, k1⟩ := RdS.reprK r hs'.1 (hz _ (by simp only [PyData.shownAll]; exact List.mem_cons_self ..))
    obtain ⟨b2, hb2, k2⟩ := RdSAll.reprK rs hs'.2 fun t ht => hz t (by simp only [PyData.shownAll]; exact List.mem_cons_of_mem _ ht)
    have l1 : d.depth ≤ PyData.depthAll (d :: ds) := by simp only [PyData.depthAll]; exact Nat.le_max_left _ _
    have l2 : PyData.depthAll ds ≤ PyData.depthAll (d :: ds) := by simp only [PyData.depthAll]; exact Nat.le_max_right _ _
    refine ⟨b1 ++ b2, (hb1.mono l1).append (hb2.mono l2), ?_⟩
    simp only [PyData.shownAll]
    exact .cons ((k1.more fun b hb => List.mem_append_left _ hb).level_le l1) (k2.more_le (fun b hb => List.mem_append_right _ hb) l2)
end

/-- repr of a list that is read so -/
theorem repr_list {a : Addr} {xs : List PyData} {A : Around} {E : Value → Shared → Prop} {s : Shared} {Q : Value → Shared → Prop}
    (r : RdS s.heap (.ref a) (.list xs)) (hs : PyData.showableAll xs = true) (hz : (PyData.list xs).shown.length ≤ sizeLine)
    (hg : A.guards = some []) (hu : A.units + ((PyData.list xs).depth + 1) < cLine)
    (hQ : ∀ h' u tk, (∀ b o, s.heap.get? b = some o → h'.get? b = some o) → Q (.str (PyData.list xs).shown u) { s with heap := h', toks := tk }) :
    wpAny (model prog w) A (call (.builtin "repr") [.ref a]) Q E s := by
  have deep : PyData.depthAll xs < (PyData.list xs).depth := by simp only [PyData.depth]; omega
  obtain ⟨_, rr⟩ := r.reads
  cases r with
  | list h1 h2 h3 h4 =>
    rename_i o vs n
    have hz' : (listText (PyData.shownAll xs)).length ≤ sizeLine := by simpa only [PyData.shown] using hz
    obtain ⟨bs, hb, hk⟩ := RdSAll.reprK (prog := prog) (w := w) h4 hs fun t ht => Nat.le_trans (listText_mem_le ht) hz'
    simp only [PyData.depth] at hu
    simp only [PyData.shown] at hQ
    refine call_repr_slot (by omega) ⟨o, h1, h2⟩ F.slot_list_repr.toG ?_
    obtain ⟨l⟩ := vs
    cases l with
    | nil =>
      have h4' : RdSAll s.heap [] xs := h4
      cases h4'
      simp only [PyData.shownAll, listText_nil] at hQ
      exact call_list_repr_empty ⟨o, h1, h2⟩ h1 h3 ⟨_, _, rfl, hQ s.heap _ _ fun _ _ e => e⟩
    | cons x l =>
      exact call_list_reprK h1 h2 h3 (not_mem_of_deeper rr deep hb) (by simpa using hk.length_eq) (fun i y e => hk.item i y (by simpa using e))
        hg (fun b _ => Clear.nil b) (by show A.units + 1 + (PyData.depthAll xs + 1) < cLine; omega) (fun _ _ e => e)
        (fun h' u tk hk => ⟨_, _, rfl, hQ h' u tk hk⟩) hz'
end

section
variable {X : Cx} {pins : List (Addr × Obj)} {σ : L2.St} {H : Hp} {s : Shared} {W : Addr → Prop}
theorem keyD_reads {h : Heap} {k : Key} {v : Value} (e : keyIs k v = true) : RdS h v (keyD k) := by
  rcases keyIs_shape e with ⟨i, t, rfl, rfl⟩ | ⟨x, t, rfl, rfl⟩
  · exact .int i t
  · exact .str x t
theorem keys_read {h : Heap} {P : Program} {w : World} : ∀ {es : List DictEntry} {kvs : List (Key × Value)}, PySem.Pairs (mixKind P w) es kvs →
    RdSAll h (es.map (·.key)) (kvs.map fun kv => keyD kv.1)
  | _, _, .nil => .nil
  | _, _, .cons h1 _ r => .cons (keyD_reads h1) (keys_read r)
theorem vals_read {P : Program} {w : World} : ∀ {es : List DictEntry} {kvs : List (Key × Value)}, PySem.Pairs (mixKind P w) es kvs →
    es.map (·.val) = kvs.map (·.2)
  | _, _, .nil => rfl
  | _, _, .cons _ h2 r => by rw [List.map_cons, List.map_cons, h2, vals_read r]
theorem KV.keys {α : Type} (f : Key → α) : ∀ {kvs : List (Key × V)} {vs : List (Key × Value)}, KV kvs vs → vs.map (fun kv => f kv.1) = kvs.map fun kv => f kv.1
  | _, _, .nil => rfl
  | _, _, .cons h r => by rw [List.map_cons, List.map_cons, h.1, KV.keys f r]
theorem KV.vals : ∀ {kvs : List (Key × V)} {vs : List (Key × Value)}, KV kvs vs → Vals (kvs.map (·.2)) (vs.map (·.2))
  | _, _, .nil => .nil
  | _, _, .cons h r => .cons h.2 (KV.vals r)
theorem zip_fst {α β : Type} : ∀ {l : List α} {m : List β}, l.length = m.length → (l.zip m).map (·.1) = l
  | [], _, _ => by simp
  | a :: l, [], h => by simp at h
  | a :: l, b :: m, h => by
    rw [List.zip_cons_cons, List.map_cons, zip_fst (Nat.succ.inj h)]
theorem zip_snd {α β : Type} : ∀ {l : List α} {m : List β}, l.length = m.length → (l.zip m).map (·.2) = m
  | [], [], _ => rfl
  | [], _ :: _, h => by simp at h
  | a :: l, [], h => by simp at h
  | a :: l, b :: m, h => by
    rw [List.zip_cons_cons, List.map_cons, zip_snd (Nat.succ.inj h)]

mutual
theorem Dq.rds (I : Inv X pins σ H s) : ∀ {v : V} {d : PyData} (u : Value), Dq W H v d → RelV v u → RdS s.heap u d
  | _, _, _, .non, r => by cases r; exact .none
  | _, _, _, .bl b, r => by cases r; exact .bool b
  | _, _, _, .int i, r => by obtain ⟨t, rfl⟩ := r; exact .int i t
  | _, _, _, .str x, r => by obtain ⟨t, rfl⟩ := r; exact .str x t
  | _, _, _, .lst (a := a) (xs := xs) _ e h, r => by
    cases r
    obtain ⟨_, its, n, rv, ho⟩ := (show ObjOk X.prog X.w H s.heap a (.lst xs) from I.hok a _ e)
    exact .list ho rfl rfl (DqAll.rds I its h rv)
  | _, _, _, .tup (a := a) (xs := xs) _ e h, r => by
    cases r
    obtain ⟨_, its, rv, o, ho, hc, n, hd⟩ := (show ObjOk X.prog X.w H s.heap a (.tup xs) from I.hok a _ e)
    exact .tuple ho hc hd (DqAll.rds I its h rv)
  | _, _, _, .dct (a := a) (kvs := kvs) (ds := ds) _ e h, r => by
    cases r
    obtain ⟨_, hsys, vs, kv, o, es, ep, ho, hx, hd, _, hp, _⟩ := dk_of I.hok e
    have hl : (kvs.map fun kv => keyD kv.1).length = ds.length := by
      have := h.length
      rw [List.length_map] at this ⊢
      exact this
    refine .dict ho hx.1 hd hsys ?_ ?_
    · rw [zip_fst hl, ← KV.keys keyD kv]
      exact keys_read hp
    · rw [zip_snd hl, vals_read hp]
      exact DqAll.rds I _ h (KV.vals kv)
theorem DqAll.rds (I : Inv X pins σ H s) : ∀ {vs : List V} {ds : List PyData} (us : List Value), DqAll W H vs ds → Vals vs us → RdSAll s.heap us ds
  | _, _, _, .nil, r => by cases r; exact .nil
  | _, _, _, .cons h t, r => by
    cases r with
    | cons r1 r2 => exact .cons (Dq.rds I _ h r1) (DqAll.rds I _ t r2)
end

/-- repr(xs), xs a list of data -/
def rRepr : List V → Hp → VK → Prop := fun vs H Q => ∃ (W : Addr → Prop) (v : V) (xs : List PyData), vs = [v] ∧ Dq W H v (.list xs) ∧ PyData.showableAll xs = true ∧
  (PyData.list xs).shown.length ≤ sizeLine ∧ (PyData.list xs).depth ≤ 60 ∧ Q (.str (PyData.list xs).shown) H
theorem call_repr {k : Nat} (hG : X.A.guards = some []) (hr : Room k X.A) : CallR X (.builtin "repr") rRepr := by
  intro pins s σ H xs us Q I r h
  obtain ⟨W, v, ds, rfl, hd, hs, hz, hdp, q⟩ := h
  obtain ⟨u, rfl, ru⟩ := Vals.one r
  have hu := hr.units
  cases hd with
  | lst n e h =>
    have rr := Dq.rds I u (.lst n e h) ru
    obtain rfl : u = _ := ru
    exact repr_list rr hs hz hG (by omega) fun h' t tk hk => ⟨.str _, H, I.kept (t' := tk) hk, ⟨t, rfl⟩, q⟩
end
end Bw
/-! Part 5. Small words: sizes, heaps, displays as data, what is printed, fractions as rational numbers. -/
namespace Bw
open PySem PySem.Spec PyProof.Rows L2
theorem sz63 {n : Nat} (h : n ≤ 1000) : n ≤ sizeLine := Nat.le_trans h (by decide)
theorem sz63' {n : Nat} (h : n ≤ 1000) : n < sizeLine := Nat.lt_of_le_of_lt h (by decide)

/-- a def as it stands behind the top, with its promise -/
structure Df (P : Program) (w : World) (K : PySem.W.Frag) (mg : Str → Option Value) (base : Heap) (k : Nat) (x : Str) (ps : List Str) (sp : Sp) where
  f : Addr
  fd : FuncData
  g : mg x = some (.ref f)
  kp : PySem.W.keepIn K (.ref f) = true
  b : Binds K fd ps []
  G : FnOk P w K mg base CX0 k f fd ps sp
/-- a def that is run where no printing is under way -/
structure Dg (P : Program) (w : World) (K : PySem.W.Frag) (mg : Str → Option Value) (base : Heap) (k : Nat) (x : Str) (ps : List Str) (sp : Sp) where
  f : Addr
  fd : FuncData
  g : mg x = some (.ref f)
  kp : PySem.W.keepIn K (.ref f) = true
  b : Binds K fd ps []
  G : FnG P w K mg base k f fd ps sp
theorem map_at {ns : List Int} {i : Nat} {x : V} (h : (ns.map V.int)[i]? = some x) : ∃ z, ns[i]? = some z ∧ x = .int z := by
  rw [List.getElem?_map] at h
  cases e : ns[i]? with
  | none =>
    rw [e] at h
    cases h
  | some z =>
    rw [e] at h
    exact ⟨z, rfl, (Option.some.inj h).symm⟩
theorem same_new {H : Hp} {p : Addr} {o : HO} (h : H p = none) : Same H (upd H p o) := fun b x e => by
  rw [upd_ne (ne_of_none e h)]
  exact e
theorem same_mut {H H' : Hp} {p : Addr} {o : HO} (s : Same H H') (h : H p = none) : Same H (upd H' p o) := fun b x e => by
  rw [upd_ne (ne_of_none e h)]
  exact s b x e

/-! ### what a display gives, as data: all of it new -/
abbrev Old (H : Hp) : Addr → Prop := fun a => H a ≠ none
theorem Old.same {H H' : Hp} (s : Same H H') : ∀ a, Old H a → Old H' a := fun a h z => by
  cases e : H a with
  | none => exact h e
  | some o =>
    rw [s a o e] at z
    cases z
def EvD (te : TE) (σ : L2.St) (d : PyData) : Prop := ∀ (H : Hp) (Q : VK), (∀ v H', Same H H' → Dq (Old H) H' v d → Q v H') → te σ H Q
def EvDs (ta : TA) (σ : L2.St) (ds : List PyData) : Prop := ∀ (H : Hp) (Q : List V → Hp → Prop), (∀ vs H', Same H H' → DqAll (Old H) H' vs ds → Q vs H') → ta σ H Q
section
variable {σ : L2.St}
theorem evd_non : EvD (tC .non) σ .none := fun H Q q => q _ H (.refl H) .non
theorem evd_bl {b : Bool} : EvD (tC (.bl b)) σ (.bool b) := fun H Q q => q _ H (.refl H) (.bl b)
theorem evd_int {i : Int} : EvD (tC (.int i)) σ (.int i) := fun H Q q => q _ H (.refl H) (.int i)
theorem evd_str {x : Str} : EvD (tC (.str x)) σ (.str x) := fun H Q q => q _ H (.refl H) (.str x)
theorem evd_neg {i : Int} : EvD (tUn (rU fun i => .int (-i)) (tC (.int i))) σ (.int (-i)) := fun H Q q => ⟨i, rfl, q _ H (.refl H) (.int (-i))⟩
theorem evd_var {j : Nat} {i : Int} (h : σ[j]? = some (some (.int i))) : EvD (tVar j) σ (.int i) := fun H Q q => ⟨_, h, q _ H (.refl H) (.int i)⟩
theorem evd_minus {j : Nat} {i : Int} (h : σ[j]? = some (some (.int i))) : EvD (tOp (rI0 fun i j => .int (i - j)) (tC (.int 0)) (tVar j)) σ (.int (0 - i)) :=
  fun H Q q => ⟨_, h, 0, i, rfl, rfl, q _ H (.refl H) (.int (0 - i))⟩
theorem evds_nil : EvDs tNil σ [] := fun H Q q => q _ H (.refl H) .nil
theorem evds_cons {te : TE} {ta : TA} {d : PyData} {ds : List PyData} (h : EvD te σ d) (t : EvDs ta σ ds) : EvDs (tCons te ta) σ (d :: ds) := fun H Q q =>
  h H _ fun v H1 s1 e1 => t H1 _ fun vs H2 s2 e2 => q _ H2 (s1.trans s2) (.cons (e1.keep (Kp.same s2)) (e2.weak (Old.same s1)))
theorem new_old {H H1 : Hp} {p : Addr} (s : Same H H1) (hp : H1 p = none) : ¬ Old H p := fun z => z (s.free hp)
theorem evd_tup {ta : TA} {ds : List PyData} (h : EvDs ta σ ds) (hl : ds.length ≤ 1000) : EvD (tTup ta) σ (.tuple ds) := fun H Q q =>
  h H _ fun vs H1 s1 e1 => ⟨sz63 (by rw [e1.length]; exact hl), fun p hp =>
    q _ _ (s1.trans (same_new hp)) (.tup (new_old s1 hp) upd_same (e1.keep (Kp.new hp)))⟩
theorem evd_lst {ta : TA} {ds : List PyData} (h : EvDs ta σ ds) (hl : ds.length ≤ 1000) : EvD (tLst ta) σ (.list ds) := fun H Q q =>
  h H _ fun vs H1 s1 e1 => ⟨sz63 (by rw [e1.length]; exact hl), fun p hp =>
    q _ _ (s1.trans (same_new hp)) (.lst (new_old s1 hp) upd_same (e1.keep (Kp.new hp)))⟩
theorem evd_dnew : EvD tDNewK σ (.dict []) := fun H Q q => fun p hp => q _ _ (same_new hp) (.dct (kvs := []) (fun z => z hp) upd_same .nil)
/-- {k: e}, one written key -/
theorem evd_dict1 {k : Key} {te : TE} {d : PyData} (h : EvD te σ d) : EvD (tDisp [(tC (kV k), te)]) σ (.dict [(keyD k, d)]) := fun H Q q => fun p hp => by
  refine h _ _ fun v H1 s1 e1 => ?_
  have ep : H1 p = some (.dK []) := s1 _ _ upd_same
  refine ⟨ep, [(k, v)], rfl, (by show 1 ≤ 15; decide), ?_⟩
  have s2 : Same H (upd H1 p (.dK [(k, v)])) := same_mut ((same_new hp).trans s1) hp
  refine q _ _ s2 (.dct (kvs := [(k, v)]) (fun z => z hp) upd_same (.cons ?_ .nil))
  have e2 : Dq (Old (upd H p (.dK []))) (upd H1 p (.dK [(k, v)])) v d := e1.keep (Kp.mut (by
    show upd H p (.dK []) p ≠ none
    rw [upd_same]
    exact fun z => nomatch z))
  exact e2.weak (Old.same (same_new hp))
end

/-! ### lengths of what is printed -/
theorem from_len : ∀ (ts : List Str) (k : Nat) (acc : Str), (textFrom k acc ts).length ≤ acc.length + piled ts
  | [], k, acc => by
    show acc.length ≤ _
    rw [piled_nil]
    omega
  | t :: ts, k, acc => by
    show (textFrom (k + 1) (acc ++ (if k > 0 then ", " else "" : String) ++ t) ts).length ≤ _
    have h := from_len ts (k + 1) (acc ++ (if k > 0 then ", " else "" : String) ++ t)
    have e : (((if k > 0 then ", " else "" : String) : Str)).length ≤ 2 := by split <;> decide +kernel
    rw [strLen_append, strLen_append] at h
    rw [piled_cons]
    omega
theorem list_len (ts : List Str) : (listText ts).length ≤ 2 + piled ts := by
  have h := from_len ts 0 "["
  have e : (("[" : String) : Str).length = 1 := by decide +kernel
  have e2 : (("]" : String) : Str).length = 1 := by decide +kernel
  unfold listText
  rw [strLen_append]
  omega
theorem piled_le {n : Nat} : ∀ {ts : List Str}, (∀ t ∈ ts, t.length ≤ n) → piled ts ≤ (n + 2) * ts.length
  | [], _ => by rw [piled_nil]; omega
  | t :: ts, h => by
    have h1 := h t List.mem_cons_self
    have h2 := piled_le (n := n) (ts := ts) fun x hx => h x (List.mem_cons_of_mem _ hx)
    rw [piled_cons, List.length_cons, Nat.mul_succ]
    omega
theorem shownAll_map : ∀ ds : List PyData, PyData.shownAll ds = ds.map PyData.shown
  | [] => by simp [PyData.shownAll]
  | d :: ds => by simp [PyData.shownAll, shownAll_map ds]
theorem shown_list_le {n m : Nat} {ds : List PyData} (h : ∀ d ∈ ds, d.shown.length ≤ n) (hl : ds.length ≤ m) : (PyData.list ds).shown.length ≤ 2 + (n + 2) * m := by
  simp only [PyData.shown]
  have h1 := list_len (PyData.shownAll ds)
  have h2 : piled (PyData.shownAll ds) ≤ (n + 2) * (PyData.shownAll ds).length := piled_le fun t ht => by
    rw [shownAll_map] at ht
    obtain ⟨d, hd, rfl⟩ := List.mem_map.mp ht
    exact h d hd
  have h3 : (PyData.shownAll ds).length = ds.length := by rw [shownAll_map, List.length_map]
  rw [h3] at h2
  have h4 : (n + 2) * ds.length ≤ (n + 2) * m := Nat.mul_le_mul_left _ hl
  omega
theorem showAll_of : ∀ {ds : List PyData}, (∀ d ∈ ds, d.showable = true) → PyData.showableAll ds = true
  | [], _ => by simp [PyData.showableAll]
  | d :: ds, h => by
    simp only [PyData.showableAll, Bool.and_eq_true]
    exact ⟨h d List.mem_cons_self, showAll_of fun x hx => h x (List.mem_cons_of_mem _ hx)⟩
theorem depthAll_le {n : Nat} : ∀ {ds : List PyData}, (∀ d ∈ ds, d.depth ≤ n) → PyData.depthAll ds ≤ n
  | [], _ => by simp [PyData.depthAll]
  | d :: ds, h => by
    simp only [PyData.depthAll]
    have h1 := h d List.mem_cons_self
    have h2 := depthAll_le (n := n) (ds := ds) fun x hx => h x (List.mem_cons_of_mem _ hx)
    omega
theorem repr_parts {ds : List PyData} {n : Nat} (h : ∀ d ∈ ds, d.showable = true ∧ d.shown.length ≤ n ∧ d.depth ≤ 9) (hn : n ≤ 100000) (hl : ds.length ≤ 100) :
    PyData.showableAll ds = true ∧ (PyData.list ds).shown.length ≤ sizeLine ∧ (PyData.list ds).depth ≤ 60 := by
  refine ⟨showAll_of fun d m => (h d m).1, ?_, ?_⟩
  · have h1 := shown_list_le (m := 100) (fun d m => (h d m).2.1) hl
    rw [sizeLine_eq]
    have h2 : (n + 2) * 100 ≤ 100002 * 100 := Nat.mul_le_mul_right _ (by omega)
    omega
  · simp only [PyData.depth]
    have h1 := depthAll_le (n := 9) fun d m => (h d m).2.2
    omega
theorem bools_ok : ∀ bs : List Bool, ∀ d ∈ bs.map PyData.bool, d.showable = true ∧ d.shown.length ≤ 5 ∧ d.depth ≤ 9 := fun bs d hd => by
  obtain ⟨b, _, rfl⟩ := List.mem_map.mp hd
  cases b
  · exact ⟨by decide +kernel, by decide +kernel, by decide +kernel⟩
  · exact ⟨by decide +kernel, by decide +kernel, by decide +kernel⟩
theorem rep_ok {d : PyData} {n : Nat} (h : d.showable = true ∧ d.shown.length ≤ n ∧ d.depth ≤ 9) (k : Nat) : ∀ x ∈ List.replicate k d, x.showable = true ∧ x.shown.length ≤ n ∧ x.depth ≤ 9 := fun x hx => by
  rw [List.eq_of_mem_replicate hx]
  exact h

/-! ### a comprehension that gives the same thing at each turn -/
mutual
theorem dq_live {W : Addr → Prop} {H : Hp} {D : Addr} (n : H D = none) : ∀ {v : V} {d : PyData}, Dq W H v d → Dq (fun a => W a ∨ a = D) H v d
  | _, _, .non => .non
  | _, _, .bl b => .bl b
  | _, _, .int i => .int i
  | _, _, .str x => .str x
  | _, _, .lst w e h => .lst (fun z => z.elim w fun q => by rw [q, n] at e; cases e) e (dqAll_live n h)
  | _, _, .tup w e h => .tup (fun z => z.elim w fun q => by rw [q, n] at e; cases e) e (dqAll_live n h)
  | _, _, .dct w e h => .dct (fun z => z.elim w fun q => by rw [q, n] at e; cases e) e (dqAll_live n h)
theorem dqAll_live {W : Addr → Prop} {H : Hp} {D : Addr} (n : H D = none) : ∀ {vs : List V} {ds : List PyData}, DqAll W H vs ds → DqAll (fun a => W a ∨ a = D) H vs ds
  | _, _, .nil => .nil
  | _, _, .cons h t => .cons (dq_live n h) (dqAll_live n t)
end
theorem rep_snoc {α : Type} (d : α) : ∀ n : Nat, List.replicate (n + 1) d = List.replicate n d ++ [d] := fun n => List.replicate_succ'
theorem const_lc {W : Addr → Prop} {H1 : Hp} {D c : Addr} {bs : List Addr} {d : PyData} {te : TE} {σ : L2.St} {vs : List Nat} {K : PySem.W.Frag} {Qd : Hp → Prop} {j : Nat}
    (nD : H1 D = none) (hc : H1 c = some (.lst (bs.map V.ref))) (hb : bs.length ≤ 100)
    (hw : ∀ x, wipe ((wipe σ vs).set j (some x)) vs = wipe σ vs)
    (turn : ∀ b ∈ bs, ∀ (H : Hp) (Q : VK), Same H1 H → H D ≠ none → (∀ y H', Same H H' → Dq (fun a => W a ∨ a = D) H' y d → Q y H') → te ((wipe σ vs).set j (some (.ref b))) H Q)
    (done : ∀ H acc, Same H1 H → H D = some (.lst acc) → DqAll (fun a => W a ∨ a = D) H acc (List.replicate bs.length d) → Qd H) :
    ∃ W : Nat → Nat → Hp → Prop, (∃ m, W 0 m (upd H1 D (.lst []))) ∧ ∀ i m H, W i m H →
      ((Itl K c).stop i H ∧ Qd H) ∨ ((Itl K c).go i H ∧ ∃ Nx : Hp → Prop, (∀ H', Nx H' → ∃ m', m' < m ∧ W (i + 1) m' H') ∧ ∀ x H', (Itl K c).yld i H x H' → gName j x (wipe σ vs) H' fun σ2 H2 => wipe σ2 vs = wipe σ vs ∧ tYes σ2 H2 fun b H3 =>
        if b = true then te σ2 H3 fun y H4 => ∃ acc, H4 D = some (.lst acc) ∧ acc.length < sizeLine ∧ Nx (upd H4 D (.lst (acc ++ [y]))) else Nx H3) := by
  have s0 : Same H1 (upd H1 D (.lst [])) := same_new nD
  refine lc_list (K := K) (a := c) (xs := bs.map V.ref) (fun i H => ∃ acc, Same H1 H ∧ H D = some (.lst acc) ∧ DqAll (fun a => W a ∨ a = D) H acc (List.replicate i d)) ⟨[], s0, upd_same, .nil⟩
    (fun i H _ ⟨_, s, _⟩ => .inl (.inl (s _ _ hc))) ?_ (fun H ⟨acc, s, e, q⟩ => done H acc s e (by rw [List.length_map] at q; exact q))
  rintro i x H hi ⟨acc, s, e, q⟩
  rw [List.getElem?_map] at hi
  have hil : i < bs.length := by
    cases z : bs[i]? with
    | none =>
      rw [z] at hi
      cases hi
    | some b => exact (List.getElem?_eq_some_iff.mp z).1
  obtain ⟨b, hbm, rfl⟩ : ∃ b ∈ bs, x = .ref b := by
    rw [List.getElem?_eq_getElem hil] at hi
    exact ⟨bs[i], List.getElem_mem _, (Option.some.inj hi).symm⟩
  refine ⟨hw _, ?_⟩
  unfold tYes
  dsimp only
  rw [if_pos rfl]
  refine turn b hbm H _ s (by rw [e]; exact fun z => nomatch z) fun y H' s' dy => ⟨acc, s' _ _ e, sz63' (by have := q.length; rw [List.length_replicate] at this; omega), acc ++ [y], ?_, upd_same, ?_⟩
  · exact same_mut (s.trans s') nD
  · have kD : Kp (fun a => W a ∨ a = D) H' (upd H' D (.lst (acc ++ [y]))) := Kp.mut (.inr rfl)
    rw [rep_snoc]
    exact ((q.keep (Kp.same s')).keep kD).app (.cons (dy.keep kD) .nil)

end Bw
/-! Part 6. Fractions in lowest terms as rational numbers, their sizes. Plain mathematics. -/
namespace Bq
theorem q_num {a b : Int} (hb : 0 < b) : (Rat.divInt a b).num = a / ((Nat.gcd a.natAbs b.natAbs : Nat) : Int) := by
  rw [Rat.num_divInt, Int.sign_eq_one_of_pos hb, Int.one_mul]
  have : b.gcd a = Nat.gcd a.natAbs b.natAbs := Nat.gcd_comm _ _
  rw [this]
theorem q_den {a b : Int} (hb : 0 < b) : ((Rat.divInt a b).den : Int) = b / ((Nat.gcd a.natAbs b.natAbs : Nat) : Int) := by
  rw [Rat.den_divInt, if_neg (by omega)]
  have : b.gcd a = Nat.gcd a.natAbs b.natAbs := Nat.gcd_comm _ _
  rw [this]
  have h : (b.natAbs : Int) = b := by omega
  rw [Int.natCast_ediv, h]
theorem den_pos (q : Rat) : (0 : Int) < q.den := by
  have := q.den_nz
  omega
theorem num_over (q : Rat) : Rat.divInt q.num q.den = q := Rat.num_divInt_den q
theorem q_add (p q : Rat) : Rat.divInt (p.num * q.den + q.num * p.den) (p.den * q.den) = p + q := by
  have h1 := den_pos p
  have h2 := den_pos q
  have := Rat.divInt_add_divInt p.num q.num (d₁ := p.den) (d₂ := q.den) (by omega) (by omega)
  rw [num_over, num_over] at this
  exact this.symm
theorem q_sub (p q : Rat) : Rat.divInt (p.num * q.den - q.num * p.den) (p.den * q.den) = p - q := by
  have h1 := den_pos p
  have h2 := den_pos q
  have := Rat.divInt_sub_divInt p.num q.num (d₁ := p.den) (d₂ := q.den) (by omega) (by omega)
  rw [num_over, num_over] at this
  exact this.symm
theorem q_mul (p q : Rat) : Rat.divInt (p.num * q.num) (p.den * q.den) = p * q := by
  have := Rat.divInt_mul_divInt p.num q.num (d₁ := p.den) (d₂ := q.den)
  rw [num_over, num_over] at this
  exact this.symm
theorem q_div (p q : Rat) : Rat.divInt (p.num * q.den) (p.den * q.num) = p / q := by
  have := Rat.divInt_mul_divInt p.num q.den (d₁ := p.den) (d₂ := q.num)
  rw [num_over, ← Rat.inv_divInt, num_over] at this
  rw [Rat.div_def]
  exact this.symm
theorem num_pos {q : Rat} : 0 < q.num ↔ 0 < q := by
  have h := Rat.num_nonneg (q := q)
  have e := Rat.num_eq_zero (q := q)
  constructor
  · intro k
    have a := h.mp (by omega)
    have b : q ≠ 0 := fun g => by have := e.mpr g; omega
    grind
  · intro k
    have a := h.mpr (by grind)
    have b : q.num ≠ 0 := fun g => by have := e.mp g; grind
    omega
theorem num_nonneg {q : Rat} : 0 ≤ q.num ↔ 0 ≤ q := Rat.num_nonneg

/-! ### sizes -/
/-- both parts below 2 ^ n -/
def Sz (n : Nat) (q : Rat) : Prop := q.num.natAbs < 2 ^ n ∧ q.den < 2 ^ n
theorem Sz.mono {m n : Nat} {q : Rat} (h : Sz m q) (l : m ≤ n) : Sz n q :=
  ⟨Nat.lt_of_lt_of_le h.1 (Nat.pow_le_pow_right (by decide) l), Nat.lt_of_lt_of_le h.2 (Nat.pow_le_pow_right (by decide) l)⟩
theorem sz_div {a b : Int} {n : Nat} (hb : 0 < b) (ha : a.natAbs < 2 ^ n) (hb2 : b.natAbs < 2 ^ n) : Sz n (Rat.divInt a b) := by
  constructor
  · rw [q_num hb]
    refine Nat.lt_of_le_of_lt ?_ ha
    rw [Int.natAbs_ediv_of_dvd]
    · exact Nat.div_le_self _ _
    · exact Int.dvd_natAbs.mp (Int.natCast_dvd_natCast.mpr (Nat.gcd_dvd_left _ _))
  · have h : (Rat.divInt a b).den = b.natAbs / Nat.gcd a.natAbs b.natAbs := by
      rw [Rat.den_divInt, if_neg (by omega)]
      have : b.gcd a = Nat.gcd a.natAbs b.natAbs := Nat.gcd_comm _ _
      rw [this]
    rw [h]
    exact Nat.lt_of_le_of_lt (Nat.div_le_self _ _) hb2
theorem mul_lt {x y : Int} {m n : Nat} (h : x.natAbs < 2 ^ m) (k : y.natAbs < 2 ^ n) : (x * y).natAbs < 2 ^ (m + n) := by
  rw [Int.natAbs_mul, Nat.pow_add]
  exact Nat.mul_lt_mul'' h k
theorem add_lt {x y : Int} {n : Nat} (h : x.natAbs < 2 ^ n) (k : y.natAbs < 2 ^ n) : (x + y).natAbs < 2 ^ (n + 1) := by
  have := Int.natAbs_add_le x y
  rw [Nat.pow_succ]
  omega
theorem sub_lt {x y : Int} {n : Nat} (h : x.natAbs < 2 ^ n) (k : y.natAbs < 2 ^ n) : (x - y).natAbs < 2 ^ (n + 1) := by
  have := Int.natAbs_sub_le x y
  rw [Nat.pow_succ]
  omega
theorem den_abs {n : Nat} {q : Rat} (h : Sz n q) : ((q.den : Int)).natAbs < 2 ^ n := h.2
theorem up (m : Nat) {n k : Nat} (h : k < 2 ^ m) (l : m ≤ n) : k < 2 ^ n := Nat.lt_of_lt_of_le h (Nat.pow_le_pow_right (by decide) l)
theorem add_num {m n : Nat} {p q : Rat} (hp : Sz m p) (hq : Sz n q) : (p.num * q.den + q.num * p.den).natAbs < 2 ^ (m + n + 1) := by
  refine add_lt (mul_lt hp.1 (den_abs hq)) ?_
  rw [Nat.add_comm m n]
  exact mul_lt hq.1 (den_abs hp)
theorem sub_num {m n : Nat} {p q : Rat} (hp : Sz m p) (hq : Sz n q) : (p.num * q.den - q.num * p.den).natAbs < 2 ^ (m + n + 1) := by
  refine sub_lt (mul_lt hp.1 (den_abs hq)) ?_
  rw [Nat.add_comm m n]
  exact mul_lt hq.1 (den_abs hp)
theorem dens {m n : Nat} {p q : Rat} (hp : Sz m p) (hq : Sz n q) : ((p.den : Int) * q.den).natAbs < 2 ^ (m + n) := mul_lt (den_abs hp) (den_abs hq)
theorem dens_pos (p q : Rat) : (0 : Int) < (p.den : Int) * q.den := Int.mul_pos (den_pos p) (den_pos q)
theorem Sz.add {m n : Nat} {p q : Rat} (hp : Sz m p) (hq : Sz n q) : Sz (m + n + 1) (p + q) := by
  rw [← q_add]
  exact sz_div (dens_pos p q) (add_num hp hq) (up _ (dens hp hq) (by omega))
theorem Sz.sub {m n : Nat} {p q : Rat} (hp : Sz m p) (hq : Sz n q) : Sz (m + n + 1) (p - q) := by
  rw [← q_sub]
  exact sz_div (dens_pos p q) (sub_num hp hq) (up _ (dens hp hq) (by omega))
theorem Sz.mul {m n : Nat} {p q : Rat} (hp : Sz m p) (hq : Sz n q) : Sz (m + n) (p * q) := by
  rw [← q_mul]
  exact sz_div (dens_pos p q) (mul_lt hp.1 hq.1) (dens hp hq)
theorem Sz.div {m n : Nat} {p q : Rat} (hp : Sz m p) (hq : Sz n q) (h : 0 < q.num) : Sz (m + n) (p / q) := by
  rw [← q_div]
  exact sz_div (Int.mul_pos (den_pos p) h) (mul_lt hp.1 (den_abs hq)) (mul_lt (den_abs hp) hq.1)

/-! ### a pair of numbers in lowest terms -/
theorem low_iff {a b : Int} (hb : 0 < b) : Nat.gcd a.natAbs b.natAbs = 1 ↔ ∃ q : Rat, a = q.num ∧ b = q.den := by
  constructor
  · intro h
    refine ⟨⟨a, b.natAbs, by omega, h⟩, rfl, ?_⟩
    show b = ((b.natAbs : Nat) : Int)
    omega
  · rintro ⟨q, rfl, rfl⟩
    exact q.reduced
/-- the sum of a row -/
def sumQ : List Rat → Rat
  | [] => 0
  | q :: r => q + sumQ r
/-- .. from the left -/
theorem sum_left : ∀ (l : List Rat) (a : Rat), l.foldl (· + ·) a = a + sumQ l
  | [], a => by simp [sumQ, Rat.add_zero]
  | q :: r, a => by
    rw [List.foldl_cons, sum_left r, sumQ, Rat.add_assoc]
theorem sum_snoc (l : List Rat) (q : Rat) : sumQ (l ++ [q]) = sumQ l + q := by
  induction l with
  | nil => simp [sumQ, Rat.add_zero, Rat.zero_add]
  | cons a r ih => rw [List.cons_append, sumQ, ih, sumQ, Rat.add_assoc]
theorem zero_q : (0 : Rat).num = 0 ∧ (0 : Rat).den = 1 := ⟨rfl, rfl⟩
theorem one_q : (1 : Rat).num = 1 ∧ (1 : Rat).den = 1 := ⟨rfl, rfl⟩
theorem Sz.zero : Sz 1 0 := ⟨by decide, by decide⟩
end Bq
/-! zip of a row of lists, the tuple kept by a name. -/
namespace Bz
open PySem PySem.Spec PyProof.Rows L2
open PySem.Sem (wp)
section
variable {prog : Program} {w : World} {A : Around} {E : Value → Shared → Prop} {s : Shared}

theorem alive {a : Addr} {Q : Option Obj → Shared → Prop} (h : Q (s.heap.get? a) s) : wpAny (model prog w) A (loadIfAlive a) Q E s := fun _ _ _ => h

theorem forIn_by {α β : Type} {body : α → β → Sem (ForInStep β)} {Q : β → Shared → Prop} (I : Nat → β → Shared → Prop) : ∀ (l : List α) (k : Nat) (b : β) (s : Shared), I k b s →
    (∀ j x b s, l[j]? = some x → I (k + j) b s → wpAny (model prog w) A (body x b) (fun r s' => ∃ b', r = .yield b' ∧ I (k + j + 1) b' s') E s) →
    (∀ b s, I (k + l.length) b s → Q b s) → wpAny (model prog w) A (forIn l b body) Q E s
  | [], k, b, s, h0, _, hd => by
    rw [List.forIn_nil]
    exact wpAny_pure (hd b s h0)
  | x :: l, k, b, s, h0, hs, hd => by
    rw [List.forIn_cons]
    refine wpAny_bind (wpAny_mono (hs 0 x b s rfl h0) (fun r s' h => ?_) fun _ _ z => z)
    obtain ⟨b', rfl, h1⟩ := h
    refine forIn_by I l (k + 1) b' s' h1 (fun j x b s e i => ?_) fun b s i => hd b s ?_
    · have e1 : k + 1 + j = k + (j + 1) := by omega
      rw [e1] at i
      rw [show k + 1 + j + 1 = k + (j + 1) + 1 by omega]
      exact hs (j + 1) x b s e i
    · rw [List.length_cons, show k + (l.length + 1) = k + 1 + l.length by omega]
      exact i

/-- an iterator, its list, the list's items -/
structure Rw where
  it : Addr
  l : Addr
  xs : Array Value

structure Apart (z TI TO : Addr) (rs : List Rw) : Prop where
  TIz : TI ≠ z
  TOz : TO ≠ z
  TITO : TI ≠ TO
  itz : ∀ r ∈ rs, r.it ≠ z ∧ r.it ≠ TI ∧ r.it ≠ TO
  nd : ∀ (i j : Nat) (r q : Rw), rs[i]? = some r → rs[j]? = some q → i ≠ j → r.it ≠ q.it
  lz : ∀ r ∈ rs, r.l ≠ z ∧ r.l ≠ TO
  ll : ∀ r ∈ rs, ∀ q ∈ rs, r.l ≠ q.it

abbrev ZipO (h : Heap) (z TI TO : Addr) (f0 : Value) (f : Bool) : Prop :=
  h.get? z = some { cls := .type "zip", dict := none, data := .fields #[f0, .bool f, .bool false, .ref TI, .ref TO], slots := #[] }
abbrev TupO (h : Heap) (T : Addr) (vs : Array Value) : Prop := h.get? T = some { cls := .type "tuple", data := .seq vs }

/-- what its first field may be between two turns -/
def Fld0 (f0 : Value) : Prop := f0 = .none ∨ ∃ T : Addr, f0 = rawInt T

/-- the rows, those before j one item further -/
def Its (h : Heap) (rs : List Rw) (k j : Nat) : Prop := ∀ m r, rs[m]? = some r → h.IsListIter r.it r.l (if m < j then k + 1 else k) ∧ h.IsList r.l r.xs

theorem owned {z TI TO : Addr} {f0 : Value} {f : Bool} {Q : Bool → Shared → Prop} (hf : Fld0 f0) (hz : ZipO s.heap z TI TO f0 f)
    (h : ∀ h' b f', ZipO h' z TI TO f0 f' → Heap.SameBut z s.heap h' → Q b { s with heap := h' }) : wpAny (model prog w) A (Builtin.SmallTypes.ownedTupleIsFree (.ref z)) Q E s := by
  unfold Builtin.SmallTypes.ownedTupleIsFree
  refine wpAny_bind (wpAny_field hz rfl (x := f0) rfl ?_)
  rcases hf with rfl | ⟨T, rfl⟩
  · exact wpAny_pure (h s.heap true f hz (Heap.SameBut.refl _ _))
  · show wpAny _ _ (loadIfAlive ((T : Int).toNat) >>= _) _ _ _
    rw [Int.toNat_natCast]
    refine wpAny_bind (alive ?_)
    cases e : s.heap.get? T with
    | none =>
      simp only [Option.isNone_none, if_true]
      exact wpAny_pure (h s.heap true f hz (Heap.SameBut.refl _ _))
    | some oT =>
      simp only [Option.isNone_some, Bool.false_eq_true, if_false]
      refine wpAny_bind (wpAny_field hz rfl (x := .bool f) rfl ?_)
      cases f with
      | true =>
        rw [if_neg (show ¬ ((Value.bool true != Value.bool true) = true) from Bool.false_ne_true)]
        exact wpAny_pure (h s.heap false true hz (Heap.SameBut.refl _ _))
      | false =>
        rw [if_pos (show (Value.bool false != Value.bool true) = true from rfl)]
        exact wpAny_bind (wpAny_setField_rec hz (by simp) fun h₁ hz₁ hs₁ => wpAny_pure (h h₁ false true hz₁ hs₁))

/-- what a turn leaves as it was -/
def Kept (z TO : Addr) (rs : List Rw) (h h' : Heap) : Prop := h'.objs.size = h.objs.size ∧ ∀ c o, c ≠ z → c ≠ TO → (∀ r ∈ rs, c ≠ r.it) → h.get? c = some o → h'.get? c = some o
theorem Kept.refl (z TO : Addr) (rs : List Rw) (h : Heap) : Kept z TO rs h h := ⟨rfl, fun _ _ _ _ _ e => e⟩
theorem Kept.trans {z TO : Addr} {rs : List Rw} {h h1 h2 : Heap} (a : Kept z TO rs h h1) (b : Kept z TO rs h1 h2) : Kept z TO rs h h2 :=
  ⟨b.1.trans a.1, fun c o x y t e => b.2 c o x y t (a.2 c o x y t e)⟩
theorem Kept.z {z TO : Addr} {rs : List Rw} {h h1 : Heap} (a : Heap.SameBut z h h1) : Kept z TO rs h h1 := ⟨a.1, fun c o x _ _ e => a.extBut _ _ x e⟩
theorem Kept.TO {z TO : Addr} {rs : List Rw} {h h1 : Heap} (a : Heap.SameBut TO h h1) : Kept z TO rs h h1 := ⟨a.1, fun c o _ x _ e => a.extBut _ _ x e⟩
theorem Kept.it {z TO : Addr} {rs : List Rw} {h h1 : Heap} {r : Rw} (m : r ∈ rs) (a : Heap.SameBut r.it h h1) : Kept z TO rs h h1 := ⟨a.1, fun c o _ _ x e => a.extBut _ _ (x r m) e⟩

theorem Its.but {h h1 : Heap} {rs : List Rw} {k j : Nat} {a : Addr} (s : Heap.SameBut a h h1) (n1 : ∀ r ∈ rs, r.it ≠ a) (n2 : ∀ r ∈ rs, r.l ≠ a) (i : Its h rs k j) : Its h1 rs k j := fun m r e =>
  have hm := List.mem_of_getElem? e
  ⟨(i m r e).1.extBut s.extBut (n1 r hm), (i m r e).2.extBut s.extBut (n2 r hm)⟩
theorem Its.next {z TI TO : Addr} {rs : List Rw} (D : Apart z TI TO rs) {h h1 : Heap} {k j : Nat} {r : Rw} (e : rs[j]? = some r) (i : Its h rs k j) (n : h1.IsListIter r.it r.l (k + 1)) (s : Heap.SameBut r.it h h1) : Its h1 rs k (j + 1) := fun m q eq => by
  have hm := List.mem_of_getElem? eq
  have hr := List.mem_of_getElem? e
  refine ⟨?_, (i m q eq).2.extBut s.extBut (D.ll q hm r hr)⟩
  by_cases c : m = j
  · subst c
    rw [e] at eq
    cases eq
    rw [if_pos (Nat.lt_succ_self _)]
    exact n
  · have := (i m q eq).1.extBut s.extBut (D.nd m j q r eq e c)
    by_cases l : m < j
    · rw [if_pos l] at this
      rw [if_pos (by omega)]
      exact this
    · rw [if_neg l] at this
      rw [if_neg (by omega)]
      exact this
theorem Its.done {h : Heap} {rs : List Rw} {k : Nat} (i : Its h rs k rs.length) : Its h rs (k + 1) 0 := fun m r e => by
  have l := (List.getElem?_eq_some_iff.mp e).1
  have := i m r e
  rw [if_pos l] at this
  rw [if_neg (by omega)]
  exact this

/-- the values of the k-th turn -/
def Vs (rs : List Rw) (k : Nat) (vs : List Value) : Prop := vs.length = rs.length ∧ ∀ (m : Nat) (r : Rw), rs[m]? = some r → ∃ v, vs[m]? = some v ∧ r.xs[k]? = some v

theorem map_get {rs : List Rw} {j : Nat} {x : Value} (h : (rs.map fun r => Value.ref r.it)[j]? = some x) : ∃ r, rs[j]? = some r ∧ x = .ref r.it := by
  rw [List.getElem?_map] at h
  cases e : rs[j]? with
  | none =>
    rw [e] at h
    cases h
  | some r =>
    rw [e] at h
    exact ⟨r, rfl, (Option.some.inj h).symm⟩

theorem next_item {z TI TO : Addr} {rs : List Rw} {k : Nat} {f0 : Value} {f : Bool} {to : Array Value} {vs : List Value} {Q : Value → Shared → Prop} (D : Apart z TI TO rs) (hn : 0 < rs.length) (hl : rs.length ≤ 1000) (hf : Fld0 f0)
    (hz : ZipO s.heap z TI TO f0 f) (hTI : TupO s.heap TI (rs.map fun r => Value.ref r.it).toArray) (hTO : TupO s.heap TO to) (hto : to.size = rs.length) (hi : Its s.heap rs k 0) (hv : Vs rs k vs)
    (hQ : ∀ h' f0' f' to', Fld0 f0' → ZipO h' z TI TO f0' f' → TupO h' TI (rs.map fun r => Value.ref r.it).toArray → TupO h' TO to' → to'.size = rs.length → Its h' rs (k + 1) 0 → TupO h' s.heap.objs.size vs.toArray →
      h'.objs.size = s.heap.objs.size + 1 → (∀ c o, c ≠ z → c ≠ TO → (∀ r ∈ rs, c ≠ r.it) → s.heap.get? c = some o → h'.get? c = some o) → Q (.ref s.heap.objs.size) { s with heap := h' }) :
    wpAny (model prog w) A (Builtin.«zip.__next__» ⟨[.ref z], []⟩) (fun fin s' => ∃ v, fin = .done (.ret v) ∧ Q v s') E s := by
  show wpAny _ _ (field (.ref z) 2 >>= _) _ _ _
  refine wpAny_bind (wpAny_field hz rfl (x := .bool false) rfl ?_)
  show wpAny _ _ (field (.ref z) 3 >>= _) _ _ _
  refine wpAny_bind (wpAny_field hz rfl (x := .ref TI) rfl ?_)
  refine wpAny_bind (wpAny_seqItems hTI rfl ?_)
  have ne : (rs.map fun r => Value.ref r.it).toArray.isEmpty = false := by
    cases rs with
    | nil => simp at hn
    | cons r t => rfl
  dsimp only
  rw [ne]
  show wpAny _ _ (Builtin.SmallTypes.ownedTupleIsFree (.ref z) >>= _) _ _ _
  have TIk : ∀ {h h' : Heap}, Kept z TO rs h h' → TupO h TI (rs.map fun r => Value.ref r.it).toArray → TupO h' TI (rs.map fun r => Value.ref r.it).toArray := fun kp e =>
    kp.2 _ _ D.TIz D.TITO (fun r hr => (D.itz r hr).2.1.symm) e
  refine wpAny_bind (owned hf hz fun h1 b f1 hz1 sb1 => ?_)
  have i1 : Its h1 rs k 0 := hi.but sb1 (fun r hr => (D.itz r hr).1) fun r hr => (D.lz r hr).1
  have TO1 : TupO h1 TO to := sb1.extBut _ _ D.TOz hTO
  have K1 : Kept z TO rs s.heap h1 := .z sb1
  have hvl := hv.1
  cases b with
  | true =>
    simp only [if_true]
    refine wpAny_bind (wpAny_rule ?_)
    refine wpAny_bind (wpAny_field (s := { s with heap := h1 }) hz1 rfl (x := .ref TO) rfl ?_)
    refine wpAny_bind (wpAny_setField_rec (s := { s with heap := h1 }) hz1 (by simp) fun h2 hz2 sb2 => ?_)
    replace hz2 : ZipO h2 z TI TO .ellipsis f1 := hz2
    have i2 : Its h2 rs k 0 := i1.but sb2 (fun r hr => (D.itz r hr).1) fun r hr => (D.lz r hr).1
    have K2 : Kept z TO rs s.heap h2 := K1.trans (.z sb2)
    have TO2 : TupO h2 TO to := sb2.extBut _ _ D.TOz TO1
    refine wpAny_bind (forIn_by (fun j b s' => b = (none, ()) ∧ ∃ h' to', s' = { s with heap := h' } ∧ ZipO h' z TI TO .ellipsis f1 ∧ Its h' rs k j ∧ Kept z TO rs s.heap h' ∧ TupO h' TO to' ∧ to'.size = rs.length ∧ ∀ m, m < j → to'[m]? = vs[m]?) _ 0 _ _
      ⟨rfl, h2, to, rfl, hz2, i2, K2, TO2, hto, fun m q => by omega⟩ ?_ ?_)
    · rintro j ⟨x, kk⟩ b s' hj ⟨rfl, h', to', rfl, hz', i', K', TO', st', pre⟩
      rw [Nat.zero_add] at i' pre ⊢
      rw [List.getElem?_zipIdx] at hj
      obtain ⟨r, hr, rfl, rfl⟩ : ∃ r, rs[j]? = some r ∧ x = Value.ref r.it ∧ kk = j := by
        cases e : (rs.map fun r => Value.ref r.it)[j]? with
        | none =>
          have e' : (List.map (fun r => Value.ref r.it) rs).toArray.toList[j]? = none := e
          rw [e'] at hj
          cases hj
        | some y =>
          have e' : (List.map (fun r => Value.ref r.it) rs).toArray.toList[j]? = some y := e
          rw [e'] at hj
          obtain ⟨r, hr, rfl⟩ := map_get e
          have q := Option.some.inj hj
          have q1 := congrArg Prod.fst q
          have q2 := congrArg Prod.snd q
          exact ⟨r, hr, q1.symm, by have : 0 + j = kk := q2; omega⟩
      have hm := List.mem_of_getElem? hr
      obtain ⟨v, hv1, hv2⟩ := hv.2 kk r hr
      obtain ⟨it1, il⟩ := i' kk r hr
      rw [if_neg (Nat.lt_irrefl _)] at it1
      refine wpAny_bind (wpAny_onRaise ?_)
      show wpAny _ _ (Builtin.SmallTypes.nextOf (.ref r.it) >>= _) _ _ _
      refine wpAny_bind (wpAny_nextOf_list_item (s := { s with heap := h' }) it1 il hv2 fun h3 it3 sb3 => wpAny_pure ?_)
      have TO3 : TupO h3 TO to' := sb3.extBut _ _ (D.itz r hm).2.2.symm TO'
      have hkl := (List.getElem?_eq_some_iff.mp hr).1
      refine wpAny_bind (wpAny_seqItems (s := { s with heap := h3 }) TO3 rfl ?_)
      refine wpAny_bind (wpAny_updateSeq (s := { s with heap := h3 }) TO3 rfl (wpAny_bind (wpAny_letGo (wpAny_pure ⟨_, rfl, rfl, ?_⟩))) (Nat.le_trans (Nat.le_of_eq st') (Bw.sz63 hl)) ?_)
      · have sb4 : Heap.SameBut TO h3 (h3.update TO (Obj.mapSeq fun x => x.setIfInBounds kk v)) := Heap.SameBut.update ..
        refine ⟨_, to'.setIfInBounds kk v, rfl, sb4.extBut _ _ D.TOz.symm (sb3.extBut _ _ (D.itz r hm).1.symm hz'), (i'.next D hr it3 sb3).but sb4 (fun r hr => (D.itz r hr).2.2) (fun r hr => (D.lz r hr).2), (K'.trans (.it hm sb3)).trans (.TO sb4), ?_, ?_, fun m hm2 => ?_⟩
        · show Heap.get? _ _ = _
          rw [Heap.get?_update_self _ TO3 rfl]
          simp [Obj.mapSeq]
        · rw [Array.size_setIfInBounds]
          exact st'
        · by_cases c : kk = m
          · subst c
            rw [Array.getElem?_setIfInBounds_self_of_lt (by omega), hv1]
          · rw [Array.getElem?_setIfInBounds_ne c]
            exact pre m (by omega)
      · rw [Array.size_setIfInBounds, st']
        have := Bw.sz63 hl
        omega
    · rintro b s' ⟨rfl, h', to', rfl, hz', i', K', TO', st', pre⟩
      have hlen : 0 + (List.map (fun r => Value.ref r.it) rs).toArray.toList.zipIdx.length = rs.length := by simp
      rw [hlen] at i' pre
      have tov : to' = vs.toArray := by
        apply Array.ext_getElem?
        intro m
        by_cases c : m < rs.length
        · rw [pre m c]
          simp
        · rw [Array.getElem?_eq_none (by omega), Array.getElem?_eq_none (by simp; omega)]
      subst tov
      refine wpAny_bind (wpAny_seqItems (s := { s with heap := h' }) TO' rfl ?_)
      refine wpAny_bind (wpAny_newTuple ?_ (by have := Bw.sz63 hl; simpa [hvl] using this))
      have hsz : h'.objs.size = s.heap.objs.size := K'.1
      show wpAny _ _ (Builtin.SmallTypes.ownedTupleHandOut (.ref z) (.ref h'.objs.size) >>= _) _ _ _
      refine wpAny_bind ?_
      unfold Builtin.SmallTypes.ownedTupleHandOut
      have up6 : ∀ c o, h'.get? c = some o → (h'.push { cls := .type "tuple", data := .seq vs.toArray }).get? c = some o := fun c o e => Heap.get?_push_of_some _ e
      have hz6 : ZipO (h'.push { cls := .type "tuple", data := .seq vs.toArray }) z TI TO .ellipsis f1 := up6 _ _ hz'
      refine wpAny_bind (wpAny_setField_rec (s := { s with heap := _ }) hz6 (by simp) fun h7 hz7 sb7 => ?_)
      replace hz7 : ZipO h7 z TI TO (rawInt h'.objs.size) f1 := hz7
      refine wpAny_setField_rec (s := { s with heap := h7 }) hz7 (by simp) fun h8 hz8 sb8 => ?_
      replace hz8 : ZipO h8 z TI TO (rawInt h'.objs.size) false := hz8
      have up : ∀ c o, c ≠ z → h'.get? c = some o → h8.get? c = some o := fun c o c1 e => sb8.extBut _ _ c1 (sb7.extBut _ _ c1 (up6 c o e))
      have hzl : z < h'.objs.size := Heap.lt_size hz'
      have T8 : TupO h8 h'.objs.size vs.toArray := sb8.extBut _ _ (Nat.ne_of_gt hzl) (sb7.extBut _ _ (Nat.ne_of_gt hzl) (Heap.get?_push_size _ rfl))
      have s8 : h8.objs.size = h'.objs.size + 1 := by rw [sb8.1, sb7.1, Heap.size_push]
      have i8 : Its h8 rs (k + 1) 0 := fun m r e =>
        ⟨(i'.done m r e).1.at fun o q => up _ o (D.itz r (List.mem_of_getElem? e)).1 q, (i'.done m r e).2.at fun o q => up _ o (D.lz r (List.mem_of_getElem? e)).1 q⟩
      rw [hsz] at hz8 T8 s8
      refine wpAny_pure ⟨_, rfl, ?_⟩
      show Q (.ref h'.objs.size) _
      rw [hsz]
      exact hQ h8 _ _ _ (.inr ⟨_, rfl⟩) hz8 (up _ _ D.TIz (TIk K' hTI)) (up _ _ D.TOz TO') st' i8 T8 s8 fun c o c1 c2 c3 e => up c o c1 (K'.2 c o c1 c2 c3 e)
  | false =>
    simp only [Bool.false_eq_true, if_false]
    refine wpAny_bind ?_
    rw [← Array.forIn_toList]
    refine forIn_by (fun j b s' => b = (none, (vs.take j).toArray) ∧ ∃ h', s' = { s with heap := h' } ∧ ZipO h' z TI TO f0 f1 ∧ Its h' rs k j ∧ Kept z TO rs s.heap h' ∧ TupO h' TO to) _ 0 _ _
      ⟨rfl, h1, rfl, hz1, i1, K1, TO1⟩ ?_ ?_
    · rintro j x b s' hj ⟨rfl, h', rfl, hz', i', K', TO'⟩
      rw [Nat.zero_add] at i' ⊢
      obtain ⟨r, hr, rfl⟩ := map_get (show (rs.map fun r => Value.ref r.it)[j]? = some x from hj)
      have hm := List.mem_of_getElem? hr
      obtain ⟨v, hv1, hv2⟩ := hv.2 j r hr
      obtain ⟨it1, il⟩ := i' j r hr
      rw [if_neg (Nat.lt_irrefl _)] at it1
      refine wpAny_bind (wpAny_holding ?_)
      show wpAny _ _ (Builtin.SmallTypes.nextOf (.ref r.it) >>= _) _ _ _
      refine wpAny_bind (wpAny_nextOf_list_item (s := { s with heap := h' }) it1 il hv2 fun h3 it3 sb3 => wpAny_pure ?_)
      refine wpAny_pure ⟨_, rfl, ?_, h3, rfl, sb3.extBut _ _ (D.itz r hm).1.symm hz', i'.next D hr it3 sb3, K'.trans (.it hm sb3), sb3.extBut _ _ (D.itz r hm).2.2.symm TO'⟩
      rw [List.take_succ, hv1]
      simp
    · rintro b s' ⟨rfl, h', rfl, hz', i', K', TO'⟩
      have hlen : 0 + (List.map (fun r => Value.ref r.it) rs).toArray.toList.length = rs.length := by simp
      rw [hlen] at i' ⊢
      rw [← hvl, List.take_length]
      show wpAny _ _ (newTuple vs >>= _) _ _ _
      refine wpAny_bind (wpAny_newTuple ?_ (by have := Bw.sz63 hl; omega))
      have hsz : h'.objs.size = s.heap.objs.size := K'.1
      have up : ∀ c o, h'.get? c = some o → (h'.push { cls := .type "tuple", data := .seq vs.toArray }).get? c = some o := fun c o e => Heap.get?_push_of_some _ e
      refine wpAny_pure ⟨_, rfl, ?_⟩
      show Q (.ref h'.objs.size) _
      have T8 : TupO (h'.push { cls := .type "tuple", data := .seq vs.toArray }) h'.objs.size vs.toArray := Heap.get?_push_size _ rfl
      have s8 : (h'.push { cls := .type "tuple", data := .seq vs.toArray }).objs.size = h'.objs.size + 1 := Heap.size_push ..
      rw [hsz] at T8 s8 ⊢
      exact hQ _ _ _ _ hf (up _ _ hz') (up _ _ (TIk K' hTI)) (up _ _ TO') hto (fun m r e => ⟨(i'.done m r e).1.at fun o q => up _ o q, (i'.done m r e).2.at fun o q => up _ o q⟩) T8 s8
        fun c o c1 c2 c3 e => up c o (K'.2 c o c1 c2 c3 e)

theorem next_end {z TI TO : Addr} {r : Rw} {t : List Rw} {k : Nat} {f0 : Value} {f : Bool} {to : Array Value} {Q : PySem.Fin → Shared → Prop} (hh : A.handled = none) (D : Apart z TI TO (r :: t)) (hf : Fld0 f0)
    (hz : ZipO s.heap z TI TO f0 f) (hTI : TupO s.heap TI ((r :: t).map fun r => Value.ref r.it).toArray) (hi : Its s.heap (r :: t) k 0) (hx : r.xs[k]? = none)
    (hE : ∀ h' e, (∀ c o, c ≠ z → c ≠ TO → (∀ q ∈ r :: t, c ≠ q.it) → s.heap.get? c = some o → h'.get? c = some o) → (∃ o, h'.get? e = some o ∧ o.cls = .type "StopIteration") → E (.ref e) { s with heap := h' }) :
    wpAny (model prog w) A (Builtin.«zip.__next__» ⟨[.ref z], []⟩) Q E s := by
  have hm : r ∈ r :: t := List.mem_cons_self
  show wpAny _ _ (field (.ref z) 2 >>= _) _ _ _
  refine wpAny_bind (wpAny_field hz rfl (x := .bool false) rfl ?_)
  show wpAny _ _ (field (.ref z) 3 >>= _) _ _ _
  refine wpAny_bind (wpAny_field hz rfl (x := .ref TI) rfl ?_)
  refine wpAny_bind (wpAny_seqItems hTI rfl ?_)
  have ne : ((r :: t).map fun r => Value.ref r.it).toArray.isEmpty = false := rfl
  dsimp only
  rw [ne]
  show wpAny _ _ (Builtin.SmallTypes.ownedTupleIsFree (.ref z) >>= _) _ _ _
  refine wpAny_bind (owned hf hz fun h1 b f1 hz1 sb1 => ?_)
  have i1 : Its h1 (r :: t) k 0 := hi.but sb1 (fun r hr => (D.itz r hr).1) fun r hr => (D.lz r hr).1
  cases b with
  | true =>
    simp only [if_true]
    refine wpAny_bind (wpAny_rule ?_)
    refine wpAny_bind (wpAny_field (s := { s with heap := h1 }) hz1 rfl (x := .ref TO) rfl ?_)
    refine wpAny_bind (wpAny_setField_rec (s := { s with heap := h1 }) hz1 (by simp) fun h2 hz2 sb2 => ?_)
    replace hz2 : ZipO h2 z TI TO .ellipsis f1 := hz2
    have i2 : Its h2 (r :: t) k 0 := i1.but sb2 (fun r hr => (D.itz r hr).1) fun r hr => (D.lz r hr).1
    obtain ⟨it1, il⟩ := i2 0 r rfl
    refine wpAny_bind ?_
    rw [List.map_cons, List.zipIdx_cons, List.forIn_cons]
    refine wpAny_bind (wpAny_bind (wpAny_onRaise ?_))
    show wpAny _ _ (Builtin.SmallTypes.nextOf (.ref r.it) >>= _) _ _ _
    refine wpAny_bind (wpAny_nextOf_list_end (s := { s with heap := h2 }) hh it1 il hx fun h3 e sb3 he => ?_)
    obtain ⟨oe, hoe, hce⟩ := he
    have hz3 : ZipO h3 z TI TO .ellipsis f1 := sb3 _ _ (D.itz r hm).1.symm hz2
    have hez : e ≠ z := fun x => by subst x; rw [hz3] at hoe; cases hoe; simp at hce
    exact wpAny_setField_rec (s := { s with heap := h3 }) hz3 (by simp) fun h4 _ sb4 => hE h4 e (fun c o c1 c2 c3 x => sb4.extBut _ _ c1 (sb3 _ _ (c3 r hm) (sb2.extBut _ _ c1 (sb1.extBut _ _ c1 x)))) ⟨oe, sb4.extBut _ _ hez hoe, hce⟩
  | false =>
    simp only [Bool.false_eq_true, if_false]
    obtain ⟨it1, il⟩ := i1 0 r rfl
    refine wpAny_bind ?_
    rw [← Array.forIn_toList]
    rw [List.map_cons, List.forIn_cons]
    refine wpAny_bind (wpAny_bind (wpAny_holding ?_))
    show wpAny _ _ (Builtin.SmallTypes.nextOf (.ref r.it) >>= _) _ _ _
    exact wpAny_bind (wpAny_nextOf_list_end (s := { s with heap := h1 }) hh it1 il hx fun h3 e sb3 he => hE h3 e (fun c o c1 c2 c3 x => sb3 _ _ (c3 r hm) (sb1.extBut _ _ c1 x)) he)

theorem pyNext_item {z TI TO : Addr} {rs : List Rw} {k : Nat} {f0 : Value} {f : Bool} {to : Array Value} {vs : List Value} {Q : Option Value → Shared → Prop} (D : Apart z TI TO rs) (hn : 0 < rs.length) (hl : rs.length ≤ 1000) (hf : Fld0 f0)
    (hz : ZipO s.heap z TI TO f0 f) (hTI : TupO s.heap TI (rs.map fun r => Value.ref r.it).toArray) (hTO : TupO s.heap TO to) (hto : to.size = rs.length) (hi : Its s.heap rs k 0) (hv : Vs rs k vs)
    (hQ : ∀ h' f0' f' to', Fld0 f0' → ZipO h' z TI TO f0' f' → TupO h' TI (rs.map fun r => Value.ref r.it).toArray → TupO h' TO to' → to'.size = rs.length → Its h' rs (k + 1) 0 → TupO h' s.heap.objs.size vs.toArray →
      h'.objs.size = s.heap.objs.size + 1 → (∀ c o, c ≠ z → c ≠ TO → (∀ r ∈ rs, c ≠ r.it) → s.heap.get? c = some o → h'.get? c = some o) → Q (some (.ref s.heap.objs.size)) { s with heap := h' }) :
    wpAny (model prog w) A (pyNext (.ref z)) Q E s := by
  have hT : s.TypeIs (.ref z) "zip" := ⟨_, hz, rfl⟩
  unfold pyNext
  exact wpAny_bind (wpAny_attempt (wpAny_callSpecial?_slot (name := Str.ofString "__next__") hT F.slot_zip_next
    (wpAny_call_entry F.slot_zip_next hT F.entry_zip_next
      (next_item D hn hl hf hz hTI hTO hto hi hv fun h' a b c d1 d2 d3 d4 d5 d6 d7 d8 d9 => wpAny_pure (hQ h' a b c d1 d2 d3 d4 d5 d6 d7 d8 d9)) (F.args_zip_next_1 _))))
theorem pyNext_end {z TI TO : Addr} {r : Rw} {t : List Rw} {k : Nat} {f0 : Value} {f : Bool} {Q : Option Value → Shared → Prop} (hh : A.handled = none) (D : Apart z TI TO (r :: t)) (hf : Fld0 f0)
    (hz : ZipO s.heap z TI TO f0 f) (hTI : TupO s.heap TI ((r :: t).map fun r => Value.ref r.it).toArray) (hi : Its s.heap (r :: t) k 0) (hx : r.xs[k]? = none)
    (hQ : ∀ h', (∀ c o, c ≠ z → c ≠ TO → (∀ q ∈ r :: t, c ≠ q.it) → s.heap.get? c = some o → h'.get? c = some o) → Q none { s with heap := h' }) :
    wpAny (model prog w) A (pyNext (.ref z)) Q E s := by
  have hT : s.TypeIs (.ref z) "zip" := ⟨_, hz, rfl⟩
  unfold pyNext
  refine wpAny_bind (wpAny_attempt (wpAny_callSpecial?_slot (name := Str.ofString "__next__") hT F.slot_zip_next
    (wpAny_call_entry F.slot_zip_next hT F.entry_zip_next (next_end (to := #[]) hh D hf hz hTI hi hx fun h' e hk he => ?_) (F.args_zip_next_1 _))))
  obtain ⟨o, ho, hc⟩ := he
  refine wpAny_bind (wpAny_isInstance (T := "StopIteration") (b := true) ⟨o, ho, hc⟩ isSubtype_stop ?_)
  exact wpAny_pure (hQ _ hk)
theorem pyIter_zip {z TI TO : Addr} {f0 : Value} {f : Bool} {Q : Value → Shared → Prop} (hz : ZipO s.heap z TI TO f0 f) (h : Q (.ref z) s) : wpAny (model prog w) A (pyIter (.ref z)) Q E s := by
  have hT : s.TypeIs (.ref z) "zip" := ⟨_, hz, rfl⟩
  refine wpAny_pyIter_slot hT F.slot_zip_iter (wpAny_call_entry F.slot_zip_iter hT F.entry_zip_iter ?_ (F.args_zip_iter_1 _))
  show wpAny _ _ (ret (.ref z)) _ _ s
  exact wpAny_pure ⟨_, rfl, "zip", _, hT, F.slot_zip_next.lookup, h⟩

/-! ### zip(*lists) is made -/
theorem typeCall_zip (us : List Value) : checkTypeCall "zip" ⟨us, []⟩ = pure () := by kernel_rfl
theorem newCall_zip : ∀ us : List Value, 0 < us.length → us.length ≤ 6 → checkBuiltinCall "zip.__new__" ⟨.type "zip" :: us, []⟩ = pure ()
  | [], h, _ => by simp at h
  | [a], _, _ => by kernel_rfl
  | [a, b], _, _ => by kernel_rfl
  | [a, b, c], _, _ => by kernel_rfl
  | [a, b, c, d], _, _ => by kernel_rfl
  | [a, b, c, d, e], _, _ => by kernel_rfl
  | [a, b, c, d, e, f], _, _ => by kernel_rfl
  | _ :: _ :: _ :: _ :: _ :: _ :: _ :: _, _, h => by simp at h
theorem args_init : ∀ us : List Value, 0 < us.length → us.length ≤ 6 → ∀ o : Value, argsOk "object.__init__" ⟨o :: us, []⟩ := by
  intro us h0 h1 o
  unfold argsOk; rw [signature?_of (id := "object.__init__") (n := ['_', '_', 't', 'i', 'n', 'i', '_', '_']) (o := ['t', 'c', 'e', 'j', 'b', 'o']) (by kernel_rfl) F.owner_object]
  match us, h0, h1 with
  | [], h, _ => simp at h
  | [a], _, _ => kernel_rfl
  | [a, b], _, _ => kernel_rfl
  | [a, b, c], _, _ => kernel_rfl
  | [a, b, c, d], _, _ => kernel_rfl
  | [a, b, c, d, e], _, _ => kernel_rfl
  | [a, b, c, d, e, f], _, _ => kernel_rfl
  | _ :: _ :: _ :: _ :: _ :: _ :: _ :: _, _, h => simp at h

/-- the rows of a new zip of the lists ls, its first iterator at p -/
def rowsAt : Nat → List (Addr × Array Value) → List Rw
  | _, [] => []
  | p, l :: ls => ⟨p, l.1, l.2⟩ :: rowsAt (p + 1) ls
theorem rowsAt_len : ∀ (ls : List (Addr × Array Value)) (p : Nat), (rowsAt p ls).length = ls.length
  | [], _ => rfl
  | l :: ls, p => congrArg (· + 1) (rowsAt_len ls (p + 1))
theorem rowsAt_get : ∀ (ls : List (Addr × Array Value)) (p m : Nat), (rowsAt p ls)[m]? = (ls[m]?).map fun l => ⟨p + m, l.1, l.2⟩
  | [], _, _ => rfl
  | l :: ls, p, 0 => rfl
  | l :: ls, p, m + 1 => by
    show (rowsAt (p + 1) ls)[m]? = _
    rw [rowsAt_get ls (p + 1) m, List.getElem?_cons_succ, show p + 1 + m = p + (m + 1) by omega]

theorem rowsAt_app : ∀ (ls ms : List (Addr × Array Value)) (p : Nat), rowsAt p (ls ++ ms) = rowsAt p ls ++ rowsAt (p + ls.length) ms
  | [], ms, p => rfl
  | l :: ls, ms, p => by
    show _ :: rowsAt (p + 1) (ls ++ ms) = _
    rw [rowsAt_app ls ms (p + 1), List.length_cons, show p + 1 + ls.length = p + (ls.length + 1) by omega]
    rfl
theorem meets_new (ls : List (Addr × Array Value)) (hl : ls.length ≤ 1000) :
    Meets (Builtin.«zip.__new__» ⟨.type "zip" :: ls.map fun l => .ref l.1, []⟩) (fun _ R s => (∀ l ∈ ls, s.heap.IsList l.1 l.2) ∧
      ∀ h', ZipO h' (s.heap.objs.size + ls.length + 2) (s.heap.objs.size + ls.length) (s.heap.objs.size + ls.length + 1) .none false → TupO h' (s.heap.objs.size + ls.length) ((rowsAt s.heap.objs.size ls).map fun r => Value.ref r.it).toArray →
        TupO h' (s.heap.objs.size + ls.length + 1) (List.replicate ls.length Value.none).toArray → Its h' (rowsAt s.heap.objs.size ls) 0 0 → (∀ c o, s.heap.get? c = some o → h'.get? c = some o) →
        R (.ok (.ret (.ref (s.heap.objs.size + ls.length + 2)))) { s with heap := h' }) :=
  .of_wp fun prog w A R s h => by
    obtain ⟨hL, h⟩ := h
    have hsub := sub_zip
    obtain ⟨hp, g, d, tk, os⟩ := s
    unfold Builtin.«zip.__new__» Builtin.SmallTypes.newClass
    repeat (any_goals (first | assumption | wp_step))
    show wpAny _ _ (forIn (ls.map fun l => Value.ref l.1) (#[] : Array Value) fun x its => holding its.toList (pyIter x) >>= fun v => pure (ForInStep.yield (its.push v))) _ _ _
    dsimp only at hL h
    refine forIn_by (s := ⟨hp, g, d, tk, os⟩) (fun j b s' => j ≤ ls.length ∧ b = ((rowsAt hp.objs.size (ls.take j)).map fun r => Value.ref r.it).toArray ∧ ∃ h', s' = ⟨h', g, d, tk, os⟩ ∧ h'.objs.size = hp.objs.size + j ∧ Its h' (rowsAt hp.objs.size (ls.take j)) 0 0 ∧
      (∀ c o, hp.get? c = some o → h'.get? c = some o)) _ 0 _ ⟨Nat.zero_le _, rfl, hp, rfl, rfl, fun m r e => (by simp [rowsAt] at e), fun _ _ e => e⟩ ?_ ?_
    · rintro j x b s' hj ⟨hjl, rfl, h', rfl, hsz, hi, hk⟩
      rw [Nat.zero_add] at hi hsz hjl ⊢
      rw [List.getElem?_map] at hj
      cases e : ls[j]? with
      | none =>
        rw [e] at hj
        cases hj
      | some l =>
        rw [e] at hj
        have hx : Value.ref l.1 = x := Option.some.inj hj
        subst hx
        have hlt := (List.getElem?_eq_some_iff.mp e).1
        have hll : h'.IsList l.1 l.2 := (hL l (List.mem_of_getElem? e)).at fun o q => hk _ o q
        refine wpAny_bind (wpAny_holding (wpAny_pyIter_list (s := ⟨h', g, d, tk, os⟩) hll (wpAny_pure ⟨_, rfl, hlt, ?_, _, rfl, ?_, ?_, fun c o q => Heap.get?_push_of_some _ (hk c o q)⟩)))
        · rw [List.take_succ, e, rowsAt_app, List.map_append]
          show Array.push _ (Value.ref h'.objs.size) = _
          rw [hsz, List.length_take, Nat.min_eq_left (Nat.le_of_lt hlt)]
          simp [rowsAt]
        · rw [Heap.size_push, hsz]
          omega
        · intro m r er
          rw [List.take_succ, e, rowsAt_app, List.length_take, Nat.min_eq_left (Nat.le_of_lt hlt)] at er
          have up : ∀ c o, h'.get? c = some o → (h'.push { cls := .type "list_iterator", data := .fields #[.ref l.1, .int 0 0] }).get? c = some o := fun c o q => Heap.get?_push_of_some _ q
          rw [List.getElem?_append] at er
          split at er
          · exact ⟨(hi m r er).1.at fun o q => up _ o q, (hi m r er).2.at fun o q => up _ o q⟩
          · have em : r = ⟨hp.objs.size + j, l.1, l.2⟩ := by
              simp only [Option.toList, rowsAt] at er
              have := List.mem_of_getElem? er
              simpa using this
            subst em
            refine ⟨?_, hll.at fun o q => up _ o q⟩
            rw [if_neg (Nat.not_lt_zero _)]
            show Heap.IsListIter _ (hp.objs.size + j) _ _
            rw [← hsz]
            exact ⟨_, Heap.get?_push_size _ rfl, rfl, rfl⟩
    · rintro b s' ⟨hjl, rfl, h', rfl, hsz, hi, hk⟩
      have hlen : 0 + (ls.map fun l => Value.ref l.1).length = ls.length := by simp
      rw [hlen] at hsz hi ⊢
      rw [List.take_length] at hi ⊢
      refine wpAny_pure ?_
      have rl : ((rowsAt hp.objs.size ls).map fun r => Value.ref r.it).length = ls.length := by rw [List.length_map, rowsAt_len]
      refine wpAny_bind (wpAny_newTuple ?_ (by have := Bw.sz63 hl; show ((rowsAt hp.objs.size ls).map fun r => Value.ref r.it).length ≤ _; omega))
      refine wpAny_bind (wpAny_newTuple ?_ (by have := Bw.sz63 hl; rw [List.length_map]; show ((rowsAt hp.objs.size ls).map fun r => Value.ref r.it).length ≤ _; omega))
      refine wpAny_bind ?_
      unfold Builtin.SmallTypes.newRecord Builtin.SmallTypes.ownedTupleFields
      refine wpAny_newObj_type ?_ (by size_fits)
      refine wpAny_pure ⟨_, rfl, ?_⟩
      have l1 : (rowsAt hp.objs.size ls).length = ls.length := rowsAt_len _ _
      generalize rowsAt hp.objs.size ls = rs at h hi l1 ⊢
      have e1 : (List.map (fun x => Value.none) (List.map (fun r => Value.ref r.it) rs).toArray.toList).toArray = (List.replicate ls.length Value.none).toArray := by
        rw [← l1]
        congr 1
        show List.map (fun x => Value.none) (List.map (fun r => Value.ref r.it) rs) = _
        rw [List.map_map]
        exact List.map_const
      rw [e1]
      have t1 : TupO (h'.push { cls := .type "tuple", data := .seq (List.map (fun r => Value.ref r.it) rs).toArray }) h'.objs.size (List.map (fun r => Value.ref r.it) rs).toArray := Heap.get?_push_size _ rfl
      have z1 : (h'.push { cls := .type "tuple", data := .seq (List.map (fun r => Value.ref r.it) rs).toArray }).objs.size = h'.objs.size + 1 := Heap.size_push ..
      have k1 : ∀ c o, h'.get? c = some o → (h'.push { cls := .type "tuple", data := .seq (List.map (fun r => Value.ref r.it) rs).toArray }).get? c = some o := fun c o q => Heap.get?_push_of_some _ q
      show R (.ok (.ret (.ref _))) ⟨Heap.push (Heap.push (Heap.push h' { cls := .type "tuple", data := .seq (List.map (fun r => Value.ref r.it) rs).toArray }) { cls := .type "tuple", data := .seq (List.replicate ls.length Value.none).toArray })
        { cls := .type "zip", data := .fields #[.none, .bool false, .bool false, .ref h'.objs.size, .ref (h'.push { cls := .type "tuple", data := .seq (List.map (fun r => Value.ref r.it) rs).toArray }).objs.size] }, g, d, tk, os⟩
      generalize h'.push { cls := .type "tuple", data := .seq (List.map (fun r => Value.ref r.it) rs).toArray } = h1 at t1 z1 k1 ⊢
      have t2 : TupO (h1.push { cls := .type "tuple", data := .seq (List.replicate ls.length Value.none).toArray }) h1.objs.size (List.replicate ls.length Value.none).toArray := Heap.get?_push_size _ rfl
      have z2 : (h1.push { cls := .type "tuple", data := .seq (List.replicate ls.length Value.none).toArray }).objs.size = h1.objs.size + 1 := Heap.size_push ..
      have k2 : ∀ c o, h1.get? c = some o → (h1.push { cls := .type "tuple", data := .seq (List.replicate ls.length Value.none).toArray }).get? c = some o := fun c o q => Heap.get?_push_of_some _ q
      show R (.ok (.ret (.ref (h1.push { cls := .type "tuple", data := .seq (List.replicate ls.length Value.none).toArray }).objs.size))) _
      generalize h1.push { cls := .type "tuple", data := .seq (List.replicate ls.length Value.none).toArray } = h2 at t2 z2 k2 ⊢
      rw [z1, hsz] at t2 z2 ⊢
      rw [hsz] at t1
      rw [z2]
      have t3 : ZipO (h2.push { cls := .type "zip", data := .fields #[.none, .bool false, .bool false, .ref (hp.objs.size + ls.length), .ref (hp.objs.size + ls.length + 1)] }) h2.objs.size (hp.objs.size + ls.length) (hp.objs.size + ls.length + 1) .none false := Heap.get?_push_size _ rfl
      have k3 : ∀ c o, h2.get? c = some o → (h2.push { cls := .type "zip", data := .fields #[.none, .bool false, .bool false, .ref (hp.objs.size + ls.length), .ref (hp.objs.size + ls.length + 1)] }).get? c = some o := fun c o q => Heap.get?_push_of_some _ q
      rw [z2] at t3
      exact h _ t3 (k3 _ _ (k2 _ _ t1)) (k3 _ _ t2) (fun m r e => ⟨(hi m r e).1.at fun o q => k3 _ o (k2 _ o (k1 _ o q)), (hi m r e).2.at fun o q => k3 _ o (k2 _ o (k1 _ o q))⟩) fun c o q => k3 _ o (k2 _ o (k1 _ o (hk c o q)))

/-- call -/
theorem call_zip (ls : List (Addr × Array Value)) (h0 : 0 < ls.length) (h6 : ls.length ≤ 6) {Q : Value → Shared → Prop} (hL : ∀ l ∈ ls, s.heap.IsList l.1 l.2)
    (h : ∀ h', ZipO h' (s.heap.objs.size + ls.length + 2) (s.heap.objs.size + ls.length) (s.heap.objs.size + ls.length + 1) .none false → TupO h' (s.heap.objs.size + ls.length) ((rowsAt s.heap.objs.size ls).map fun r => Value.ref r.it).toArray →
        TupO h' (s.heap.objs.size + ls.length + 1) (List.replicate ls.length Value.none).toArray → Its h' (rowsAt s.heap.objs.size ls) 0 0 → (∀ c o, s.heap.get? c = some o → h'.get? c = some o) →
        Q (.ref (s.heap.objs.size + ls.length + 2)) { s with heap := h' }) :
    wpAny (model prog w) A (call (.type "zip") (ls.map fun l => .ref l.1)) Q E s := by
  have l1 : (ls.map fun l => Value.ref l.1).length = ls.length := List.length_map _
  refine callType_new F.called_zip (by decide) (typeCall_zip _) (newCall_zip _ (by omega) (by omega)) (args_init _ (by omega) (by omega)) F.entry_zip_new (meets_new ls (by omega)) ⟨hL, fun h' a b c d e => ?_⟩
  exact ⟨⟨_, a, rfl⟩, h h' a b c d e⟩
end

/-- the lists at as, as they stand at each turn, the items in new tuples -/
def ItzN (K : PySem.W.Frag) (as : List Addr) : It :=
  ⟨fun i H => ∀ a ∈ as, ∃ xs, SqL K H a xs ∧ i < xs.length,
    fun i H v H' => ∃ T vs, v = .ref T ∧ H T = none ∧ H' = upd H T (.tup vs) ∧ vs.length = as.length ∧ ∀ (m : Nat) a xs, as[m]? = some a → SqL K H a xs → vs[m]? = xs[i]?,
    fun i H => ∃ a xs, as[0]? = some a ∧ (∀ b ∈ as, ∃ ys, SqL K H b ys) ∧ SqL K H a xs ∧ xs.length ≤ i⟩

theorem eqN {a b : Addr} (h : a = b) : @Eq Nat a b := h
theorem neN {a b : Addr} (h : ¬ @Eq Nat a b) : a ≠ b := h
def rowsOf (p : Nat) (as : List Addr) (g : Addr → Array Value) : List Rw := rowsAt p (as.map fun a => (a, g a))
theorem rowsOf_len (p : Nat) (as : List Addr) (g : Addr → Array Value) : (rowsOf p as g).length = as.length := by
  unfold rowsOf
  rw [rowsAt_len, List.length_map]
theorem rowsOf_get {p : Nat} {as : List Addr} {g : Addr → Array Value} {m : Nat} {r : Rw} (h : (rowsOf p as g)[m]? = some r) : ∃ a, as[m]? = some a ∧ r = ⟨p + m, a, g a⟩ := by
  unfold rowsOf at h
  rw [rowsAt_get, List.getElem?_map] at h
  cases e : as[m]? with
  | none =>
    rw [e] at h
    cases h
  | some a =>
    rw [e] at h
    exact ⟨a, rfl, (Option.some.inj h).symm⟩
theorem rowsOf_it : ∀ (as : List Addr) (p : Nat) (g : Addr → Array Value), (rowsOf p as g).map (fun r => Value.ref r.it) = (List.range' p as.length).map Value.ref
  | [], _, _ => rfl
  | a :: as, p, g => by
    show Value.ref p :: (rowsOf (p + 1) as g).map (fun r => Value.ref r.it) = _
    rw [rowsOf_it as (p + 1) g]
    rfl
theorem apart {p : Nat} {as : List Addr} (h : ∀ a ∈ as, a < p) (g : Addr → Array Value) : Apart (p + as.length + 2) (p + as.length) (p + as.length + 1) (rowsOf p as g) := by
  have get : ∀ r ∈ rowsOf p as g, ∃ m a, m < as.length ∧ a < p ∧ r = ⟨p + m, a, g a⟩ := fun r hr => by
    obtain ⟨m, hm⟩ := List.mem_iff_getElem?.mp hr
    obtain ⟨a, ha, e⟩ := rowsOf_get hm
    exact ⟨m, a, (List.getElem?_eq_some_iff.mp ha).1, h a (List.mem_of_getElem? ha), e⟩
  refine ⟨?_, ?_, ?_, fun r hr => ?_, fun i j r q hi hj ne => ?_, fun r hr => ?_, fun r hr q hq => ?_⟩
  · exact neN (by omega)
  · exact neN (by omega)
  · exact neN (by omega)
  · obtain ⟨m, a, hm, ha, rfl⟩ := get r hr
    refine ⟨?_, ?_, ?_⟩ <;> (refine neN ?_; show ¬ @Eq Nat (p + m) _; omega)
  · obtain ⟨a, ha, rfl⟩ := rowsOf_get hi
    obtain ⟨b, hb, rfl⟩ := rowsOf_get hj
    exact neN (by show ¬ @Eq Nat (p + i) (p + j); omega)
  · obtain ⟨m, a, hm, ha, rfl⟩ := get r hr
    refine ⟨?_, ?_⟩ <;> (show ¬ (a = _); exact Nat.ne_of_lt (Nat.lt_of_lt_of_le ha (by omega)))
  · obtain ⟨m, a, hm, ha, rfl⟩ := get r hr
    obtain ⟨m2, a2, hm2, ha2, rfl⟩ := get q hq
    show ¬ (a = p + m2)
    exact Nat.ne_of_lt (Nat.lt_of_lt_of_le ha (by omega))

def fpN (p n : Nat) : List Addr := List.range' p (n + 3)
theorem fp_mem {p n c : Nat} : c ∈ fpN p n ↔ p ≤ c ∧ c < p + n + 3 := by
  unfold fpN
  rw [List.mem_range'_1]
  omega
def TnN (p : Nat) (as : List Addr) (i : Nat) (h : Heap) : Prop := ∃ f0 f to, Fld0 f0 ∧ ZipO h (p + as.length + 2) (p + as.length) (p + as.length + 1) f0 f ∧ TupO h (p + as.length) ((List.range' p as.length).map Value.ref).toArray ∧
  TupO h (p + as.length + 1) to ∧ to.size = as.length ∧ ∀ (m : Nat) a, as[m]? = some a → h.IsListIter (p + m) a i

theorem turnN {P : Program} {w : World} {K : PySem.W.Frag} {x : Str} {tpos : Pos} {p : Nat} {as : List Addr} (ha : ∀ a ∈ as, a < p) (h0 : 0 < as.length) (h6 : as.length ≤ 6) :
    Turn P w K (.Name x tpos) (ItzN K as) (fpN p as.length) (p + as.length + 2) (TnN p as) where
  mem := fp_mem.mpr ⟨by omega, by omega⟩
  obj := fun i h st c hc => by
    obtain ⟨f0, f, to, hf, hz, hTI, hTO, hto, hi⟩ := st
    obtain ⟨l, u⟩ := fp_mem.mp hc
    by_cases c1 : c = p + as.length + 2
    · rw [c1]; exact ⟨_, hz, fun v q => nomatch q⟩
    by_cases c2 : c = p + as.length + 1
    · rw [c2]; exact ⟨_, hTO, fun v q => nomatch q⟩
    by_cases c3 : c = p + as.length
    · rw [c3]; exact ⟨_, hTI, fun v q => nomatch q⟩
    have c1' : ¬ @Eq Nat c (p + as.length + 2) := c1
    have c2' : ¬ @Eq Nat c (p + as.length + 1) := c2
    have c3' : ¬ @Eq Nat c (p + as.length) := c3
    obtain ⟨m, e⟩ : ∃ m : Nat, c = p + m := Nat.exists_eq_add_of_le l
    have e2 := eqN e
    have hm : m < as.length := by omega
    obtain ⟨o, ho, _, d⟩ := hi m as[m] (List.getElem?_eq_getElem hm)
    rw [← e] at ho
    exact ⟨o, ho, fun v q => by rw [d] at q; cases q⟩
  keep := fun i h h' st k => by
    obtain ⟨f0, f, to, hf, hz, hTI, hTO, hto, hi⟩ := st
    refine ⟨f0, f, to, hf, k _ (fp_mem.mpr ⟨by omega, by omega⟩) _ hz, k _ (fp_mem.mpr ⟨by omega, by omega⟩) _ hTI, k _ (fp_mem.mpr ⟨by omega, by omega⟩) _ hTO, hto, fun m a e => ?_⟩
    have hm := (List.getElem?_eq_some_iff.mp e).1
    exact (hi m a e).at fun o q => k _ (fp_mem.mpr ⟨by omega, by omega⟩) o q
  item := by
    intro X hP hw hK hc i pins s σ H E I hf st hg
    subst hP hw hK
    obtain ⟨f0, f, to, hf0, hz, hTI, hTO, hto, hi⟩ := st
    have hg' : ∀ a : Addr, ∃ q : V × Value × Array Value, a ∈ as → (∃ xs, SqL X.K H a xs ∧ xs[i]? = some q.1) ∧ s.heap.IsList a q.2.2 ∧ q.2.2[i]? = some q.2.1 ∧ RelV q.1 q.2.1 := fun a => by
      by_cases m : a ∈ as
      · obtain ⟨xs, hx, hl⟩ := hg a m
        obtain ⟨its, rv, pl, _⟩ := I.list hx
        obtain ⟨u, hu, ru⟩ := rv.get (List.getElem?_eq_getElem hl)
        exact ⟨(xs[i], u, its.toArray), fun _ => ⟨⟨xs, hx, List.getElem?_eq_getElem hl⟩, pl.isList, by simpa using hu, ru⟩⟩
      · exact ⟨(.non, .none, #[]), fun z => absurd z m⟩
    let G := fun a => Classical.choose (hg' a)
    have hG : ∀ a ∈ as, (∃ xs, SqL X.K H a xs ∧ xs[i]? = some (G a).1) ∧ s.heap.IsList a (G a).2.2 ∧ (G a).2.2[i]? = some (G a).2.1 ∧ RelV (G a).1 (G a).2.1 := fun a m => Classical.choose_spec (hg' a) m
    generalize G = G at hG
    have rl := rowsOf_len p as fun a => (G a).2.2
    have D := apart ha fun a => (G a).2.2
    have rit := rowsOf_it as p fun a => (G a).2.2
    have HIts : Its s.heap (rowsOf p as fun a => (G a).2.2) i 0 := fun m r e => by
      obtain ⟨a, ea, rfl⟩ := rowsOf_get e
      rw [if_neg (Nat.not_lt_zero _)]
      exact ⟨hi m a ea, (hG a (List.mem_of_getElem? ea)).2.1⟩
    have hV : Vs (rowsOf p as fun a => (G a).2.2) i (as.map fun a => (G a).2.1) := ⟨by rw [List.length_map, rl], fun m r e => by
      obtain ⟨a, ea, rfl⟩ := rowsOf_get e
      exact ⟨(G a).2.1, by rw [List.getElem?_map, ea]; rfl, (hG a (List.mem_of_getElem? ea)).2.2.1⟩⟩
    have hzl : p + as.length + 2 < s.heap.objs.size := Heap.lt_size hz
    rw [← rit] at hTI
    refine pyNext_item D (by omega) (by omega) hf0 hz hTI hTO (by omega) HIts hV fun h' f0' f' to' hf0' z' TI' TO' to2 i' hT hsz hk => ?_
    refine ⟨_, rfl, ?_⟩
    show wpAny _ _ (letOwnedTupleGo (.Name x tpos) _ _) _ _ _
    refine wpAny_pure ?_
    have rvs : ∀ bs : List Addr, (∀ b ∈ bs, b ∈ as) → Vals (bs.map fun a => (G a).1) (bs.map fun a => (G a).2.1) := fun bs => by
      induction bs with
      | nil => exact fun _ => .nil
      | cons b bs ih => exact fun h => .cons (hG b (h b List.mem_cons_self)).2.2.2 (ih fun c hc => h c (List.mem_cons_of_mem _ hc))
    have new : ObjOk X.prog X.w (upd H s.heap.objs.size (.tup (as.map fun a => (G a).1))) h' s.heap.objs.size (.tup (as.map fun a => (G a).1)) :=
      ⟨by show (as.map fun a => (G a).1).length ≤ sizeLine; rw [List.length_map]; exact Bw.sz63 (by omega), as.map fun a => (G a).2.1, rvs as fun _ h => h, ⟨_, hT, rfl, _, rfl⟩⟩
    have I1 : Inv X pins σ (upd H s.heap.objs.size (.tup (as.map fun a => (G a).1))) { s with heap := h' } :=
      I.turnedNew (t' := s.toks) (ch := fpN p as.length) (fun c o hb q => hk c o (fun e => hb (fp_mem.mpr (by have := eqN e; omega))) (fun e => hb (fp_mem.mpr (by have := eqN e; omega))) (fun r hr e => hb (by
        obtain ⟨m, hm⟩ := List.mem_iff_getElem?.mp hr
        obtain ⟨a, ea, rfl⟩ := rowsOf_get hm
        have hm2 := (List.getElem?_eq_some_iff.mp ea).1
        have e' := eqN e
        have e'' : @Eq Nat c (p + m) := e'
        exact fp_mem.mpr (by omega))) q) hf (Nat.le_refl _) new
    refine ⟨.ref s.heap.objs.size, _, I1, rfl, ⟨_, _, rfl, I.hok.fresh (Nat.le_refl _), rfl, by rw [List.length_map], fun m a xs ea hx => ?_⟩, ⟨f0', f', to', hf0', z', by rw [rit] at TI'; exact TI', TO', by omega, fun m a ea => ?_⟩, fun c hcm => ?_⟩
    · rw [List.getElem?_map, ea]
      obtain ⟨ys, hy, ey⟩ := (hG a (List.mem_of_getElem? ea)).1
      rw [I.list_inj hx hy, ey]
      rfl
    · have er : (rowsOf p as fun a => (G a).2.2)[m]? = some ⟨p + m, a, (G a).2.2⟩ := by
        unfold rowsOf
        rw [rowsAt_get, List.getElem?_map, ea]
        rfl
      have := (i' m _ er).1
      rw [if_neg (Nat.not_lt_zero _)] at this
      exact this
    · obtain ⟨l, u⟩ := fp_mem.mp hcm
      have hlt : c < s.heap.objs.size := Nat.lt_of_lt_of_le u (by omega)
      rw [upd_ne (Nat.ne_of_lt hlt)]
      exact (hf c hcm).1
  done := by
    intro X hP hw hK hc i pins s σ H E I hf st hg
    subst hP hw hK
    obtain ⟨f0, f, to, hf0, hz, hTI, hTO, hto, hi⟩ := st
    obtain ⟨a0, xs0, ea0, hall, hx0, hle⟩ := hg
    have hg' : ∀ a : Addr, ∃ q : Array Value, a ∈ as → s.heap.IsList a q ∧ (a = a0 → q[i]? = none) := fun a => by
      by_cases m : a ∈ as
      · by_cases c : a = a0
        · subst c
          obtain ⟨its, rv, pl, _⟩ := I.list hx0
          have := rv.length
          exact ⟨its.toArray, fun _ => ⟨pl.isList, fun _ => by simp; omega⟩⟩
        · obtain ⟨ys, hy⟩ := hall a m
          obtain ⟨its, rv, pl, _⟩ := I.list hy
          exact ⟨its.toArray, fun _ => ⟨pl.isList, fun z => absurd z c⟩⟩
      · exact ⟨#[], fun z => absurd z m⟩
    let G := fun a => Classical.choose (hg' a)
    have hG : ∀ a ∈ as, s.heap.IsList a (G a) ∧ (a = a0 → (G a)[i]? = none) := fun a m => Classical.choose_spec (hg' a) m
    generalize G = G at hG
    have rl := rowsOf_len p as G
    have D := apart ha G
    have rit := rowsOf_it as p G
    have HIts : Its s.heap (rowsOf p as G) i 0 := fun m r e => by
      obtain ⟨a, ea, rfl⟩ := rowsOf_get e
      rw [if_neg (Nat.not_lt_zero _)]
      exact ⟨hi m a ea, (hG a (List.mem_of_getElem? ea)).1⟩
    rw [← rit] at hTI
    have hr0 : (rowsOf p as G)[0]? = some ⟨p + 0, a0, G a0⟩ := by
      unfold rowsOf
      rw [rowsAt_get, List.getElem?_map, ea0]
      rfl
    have hx := (hG a0 (List.mem_of_getElem? ea0)).2 rfl
    have hk2 : ∀ r ∈ rowsOf p as G, ∃ m, m < as.length ∧ r.it = p + m := fun r hr => by
      obtain ⟨m, hm⟩ := List.mem_iff_getElem?.mp hr
      obtain ⟨a, ea, rfl⟩ := rowsOf_get hm
      exact ⟨m, (List.getElem?_eq_some_iff.mp ea).1, rfl⟩
    generalize rowsOf p as G = rs at rl D rit HIts hTI hr0 hk2
    cases rs with
    | nil => cases hr0
    | cons r t =>
      have er : r = ⟨p + 0, a0, G a0⟩ := Option.some.inj hr0
      have hx' : r.xs[i]? = none := by rw [er]; exact hx
      refine pyNext_end (I.ok.hd hc) D hf0 hz hTI HIts hx' fun h' hk => ⟨rfl, I.turnedL (t' := s.toks) (ch := fpN p as.length) (fun c o hb q =>
        hk c o (fun e => hb (fp_mem.mpr (by have := eqN e; omega))) (fun e => hb (fp_mem.mpr (by have := eqN e; omega))) (fun q hq e => hb (by
          obtain ⟨m, hm, e2⟩ := hk2 q hq
          have e' := eqN e
          have e'' := eqN e2
          exact fp_mem.mpr (by omega))) q) hf⟩
  self := fun A i s Q E st h => by
    obtain ⟨f0, f, to, hf0, hz, _⟩ := st
    exact pyIter_zip hz h

/-- for x in zip( *lists) -/
def iZipN (K : PySem.W.Frag) (te : TE) : TI := fun σ H R => te σ H fun v H1 => ∃ (p : Addr) (as : List Addr), v = .ref p ∧ (SqT K H1 p (as.map V.ref) ∨ SqL K H1 p (as.map V.ref)) ∧ 0 < as.length ∧ as.length ≤ 6 ∧ (∀ a ∈ as, ∃ xs, SqL K H1 a xs) ∧ R (ItzN K as) H1
theorem vals_refs : ∀ {as : List Addr} {us : List Value}, Vals (as.map V.ref) us → us = as.map Value.ref
  | [], _, .nil => rfl
  | a :: as, _, .cons r t => by
    rw [vals_refs t]
    rw [show _ = Value.ref a from r]
    rfl
theorem callWith_typeS {M : Model} {A : Around} {E : Value → Shared → Prop} {s : Shared} {pos p : Pos} {T : String} {env : Env} {e : Expr} {Q : Value → Shared → Prop}
    (h : wpAny M A (eval e env) (fun v s₁ => PySem.W.StarOf M A E v (fun vs s₂ => wpAny M A (call (.type T) vs) Q E s₂) s₁) E s) (he : starEach [.Starred e p] env = [(true, eval e env)] := by rfl) :
    wpAny M A (callWith pos (.type T) [] (backTo pos (starEach [.Starred e p] env)) []) Q E s := by
  rw [he]
  have h := PySem.W.ks_lone (f := .type T) (pos := pos) (Q := fun a s₁ => wpAny M A (call (.type T) ([] ++ a.pos) a.kw) Q E s₁) h
  unfold callWith
  refine wpAny_bind (wpAny_holding (wpAny_mono h (fun a s₁ h₁ => wpAny_bind (wpAny_standAt ?_)) fun _ _ x => x))
  refine wpAny_bind (wpAny_pure ?_)
  have tail : ∀ {t : Sem Value}, wpAny M A t Q E s₁ → wpAny M A (t >>= fun r => holding [r] point >>= fun _ => pure r) Q E s₁ :=
    fun ht => wpAny_bind (wpAny_mono ht (fun r s₂ hr => wpAny_bind (wpAny_holding (wpAny_point (wpAny_pure hr)))) fun _ _ x => x)
  exact tail (wpAny_operating h₁)

theorem pi_zipN {X : Cx} {e : Expr} {te : TE} {x : Str} {p pos sp tpos : Pos} (hg : Gl X "zip") (hm : X.mg "zip" = none) (he : PE X e te)
    (hst : starEach [.Starred e sp] X.env = [(true, eval e X.env)] := by rfl) :
    PI X (.Name x tpos) (.Call (.Name "zip" p) [.Starred e sp] [] pos) (iZipN X.K te) := by
  refine ⟨fun pins s σ H R I h => ?_⟩
  refine Call_ (ld_blt I hg hm PyProof.Rows.boot_zip (callWith_typeS (thn (he.run pins s σ H _ I h) fun v s1 ⟨y, H1, I1, ry, q1⟩ => ?_) hst))
  obtain ⟨a, as, rfl, hq, h0, h6, hL, q⟩ := q1
  obtain rfl : v = Value.ref a := ry
  refine StX.star_any I1 hq fun us s2 I2 rv => ?_
  obtain rfl := vals_refs rv
  have hL' : ∀ b : Addr, ∃ its : Array Value, b ∈ as → s2.heap.IsList b its := fun b => by
    by_cases m : b ∈ as
    · obtain ⟨xs, hx⟩ := hL b m
      obtain ⟨its, _, pl, _⟩ := I2.list hx
      exact ⟨its.toArray, fun _ => pl.isList⟩
    · exact ⟨#[], fun z => absurd z m⟩
  let G := fun b => Classical.choose (hL' b)
  have hG : ∀ b ∈ as, s2.heap.IsList b (G b) := fun b m => Classical.choose_spec (hL' b) m
  generalize G = G at hG
  have lt : ∀ b ∈ as, b < s2.heap.objs.size := fun b m => by
    obtain ⟨o, ho, _⟩ := hG b m
    exact Heap.lt_size ho
  have e1 : as.map Value.ref = (as.map fun b => (b, G b)).map fun l => Value.ref l.1 := by
    rw [List.map_map]
    rfl
  rw [e1]
  have l1 : (as.map fun b => (b, G b)).length = as.length := List.length_map _
  refine call_zip _ (by omega) (by omega) (fun l hl => ?_) fun h' hz hTI hTO hi hk => pyIter_zip hz ?_
  · obtain ⟨b, hb, rfl⟩ := List.mem_map.mp hl
    exact hG b hb
  · have I3 : Inv X pins σ H1 { s2 with heap := h' } := I2.kept (t' := s2.toks) hk
    have rit := rowsOf_it as s2.heap.objs.size G
    rw [l1] at hz hTI hTO ⊢
    have hTI' : TupO h' (s2.heap.objs.size + as.length) ((List.range' s2.heap.objs.size as.length).map Value.ref).toArray := by
      rw [← rit]
      exact hTI
    refine ⟨_, fpN s2.heap.objs.size as.length, _, _, H1, rfl, I3, turnN lt h0 h6, ⟨_, _, _, .inl rfl, hz, hTI', hTO, by simp, fun m a ea => ?_⟩, fun c hc => ?_, q⟩
    · have er : (rowsAt s2.heap.objs.size (as.map fun b => (b, G b)))[m]? = some ⟨s2.heap.objs.size + m, a, G a⟩ := by
        rw [rowsAt_get, List.getElem?_map, ea]
        rfl
      have := (hi m _ er).1
      rw [if_neg (Nat.not_lt_zero _)] at this
      exact this
    · have hle : s2.heap.objs.size ≤ c := (fp_mem.mp hc).1
      exact I2.fpOk hle (I2.hok.fresh hle)

theorem walk_zipN {K : PySem.W.Frag} {as : List Addr} {rows : Nat → List V} {n : Nat} (h0 : 0 < as.length) (hr : ∀ i, i < as.length → (rows i).length = n) :
    Walk (ItzN K as) n (fun H => ∀ (i : Nat) a, as[i]? = some a → SqL K H a (rows i)) (fun i H v H' => ∃ T vs, v = .ref T ∧ H T = none ∧ H' = upd H T (.tup vs) ∧ vs.length = as.length ∧ ∀ (m : Nat) a, as[m]? = some a → vs[m]? = (rows m)[i]?) := by
  refine ⟨fun i H hi g a ha => ?_, fun H g => ?_, fun i H v H' hi g y => ?_⟩
  · obtain ⟨j, hj⟩ := List.mem_iff_getElem?.mp ha
    exact ⟨_, g j a hj, by rw [hr j (List.getElem?_eq_some_iff.mp hj).1]; exact hi⟩
  · have e : as[0]? = some as[0] := List.getElem?_eq_getElem h0
    refine ⟨_, _, e, fun b hb => ?_, g 0 _ e, by rw [hr 0 h0]; exact Nat.le_refl _⟩
    obtain ⟨j, hj⟩ := List.mem_iff_getElem?.mp hb
    exact ⟨_, g j b hj⟩
  · obtain ⟨T, vs, e1, e2, e3, e4, e5⟩ := y
    exact ⟨T, vs, e1, e2, e3, e4, fun m a ha => e5 m a _ ha (g m a ha)⟩
end Bz
/-! Part 7. Any value as data: its type; lists that are empty; comprehensions told by what each turn gives; fractions as data. -/
namespace Bw
open PySem PySem.Spec PyProof.Rows L2

theorem ifT {c : Prop} [Decidable c] {A B : Prop} (h : c) (a : A) : if c then A else B := by
  rw [if_pos h]
  exact a
theorem ifF {c : Prop} [Decidable c] {A B : Prop} (h : ¬ c) (b : B) : if c then A else B := by
  rw [if_neg h]
  exact b
/-! ### types -/
def tyD : PyData → String
  | .none => "NoneType"
  | .bool _ => "bool"
  | .int _ => "int"
  | .str _ => "str"
  | .list _ => "list"
  | .tuple _ => "tuple"
  | .dict _ => "dict"
theorem Dq.tyx {W : Addr → Prop} {H : Hp} {K : PySem.W.Frag} {v : V} {d : PyData} (h : Dq W H v d) : TyX K H v (.type (tyD d)) := by
  cases h with
  | non => exact .base .non
  | bl b => exact .base (.bl b)
  | int i => exact .base (.int i)
  | str x => exact .base (.str x)
  | lst _ e _ => exact .base (.lst e)
  | tup _ e _ => exact .base (.tup e)
  | dct _ e _ => exact .base (.dK e)
def isTup : PyData → Bool
  | .tuple _ => true
  | _ => false
def isInt : PyData → Bool
  | .int _ => true
  | .bool _ => true
  | _ => false
def isBl : PyData → Bool
  | .bool _ => true
  | _ => false
def isStr : PyData → Bool
  | .str _ => true
  | _ => false
theorem kit_tup (d : PyData) : kitB (tyD d) "tuple" = some (isTup d) := by
  cases d <;> (simp only [tyD, isTup]; decide +kernel)
theorem kit_int (d : PyData) : kitB (tyD d) "int" = some (isInt d) := by
  cases d <;> (simp only [tyD, isInt]; decide +kernel)
theorem kit_bool (d : PyData) : kitB (tyD d) "bool" = some (isBl d) := by
  cases d <;> (simp only [tyD, isBl]; decide +kernel)
theorem kit_str (d : PyData) : kitB (tyD d) "str" = some (isStr d) := by
  cases d <;> (simp only [tyD, isStr]; decide +kernel)
/-- isinstance(v, T), v any value that is data -/
def rIsD : List V → Hp → VK → Prop := fun xs H Q => ∃ (W : Addr → Prop) (v : V) (d : PyData) (n : String) (b : Bool), xs = [v, .ty n] ∧ Dq W H v d ∧ kitB (tyD d) n = some b ∧ Q (.bl b) H
theorem call_isD {X : Cx} : CallR X (.builtin "isinstance") rIsD := by
  intro pins s σ H xs us Q I r h
  obtain ⟨W, v, d, n, b, rfl, hd, hk, q⟩ := h
  exact call_isi pins s σ H _ us Q I r ⟨v, .ty n, _, _, b, rfl, .ty n, hd.tyx, kit_ty hk, q⟩

/-! ### a list and [] -/
def rNil (K : PySem.W.Frag) (neg : Bool) : R2 := fun x y H Q => ∃ a b xs, x = .ref a ∧ y = .ref b ∧ SqL K H a xs ∧ SqL K H b [] ∧ Q (.bl (if neg then !xs.isEmpty else xs.isEmpty)) H
theorem op_eqNil {X : Cx} (hu : X.A.units + 64 < cLine) : OpR X (compareOp .Eq) (rNil X.K false) := by
  intro pins s σ H x y v u Q I rx ry h
  obtain ⟨a, b, xs, rfl, rfl, ha, hb, q⟩ := h
  obtain rfl : v = Value.ref a := rx
  obtain rfl : u = Value.ref b := ry
  obtain ⟨its, rv, p1, _⟩ := I.list ha
  obtain ⟨its2, rv2, p2, _⟩ := I.list hb
  cases rv2
  cases xs with
  | nil =>
    cases rv
    exact SeqAt.eq_listAt (e := fun _ => true) p1.isList p2.isList rfl (by omega) (fun j h1 _ => absurd h1 (Nat.not_lt_zero j)) ⟨.bl true, H, I, rfl, q⟩
  | cons z zs =>
    cases rv with
    | cons r t => exact SeqAt.eq_list_lengthsAt p1.isList p2.isList (by simp) (by omega) ⟨.bl false, H, I, rfl, q⟩
/-- a tuple and () -/
def rNilT (K : PySem.W.Frag) : R2 := fun x y H Q => ∃ a b xs, x = .ref a ∧ y = .ref b ∧ SqT K H a xs ∧ SqT K H b [] ∧ Q (.bl xs.isEmpty) H
theorem op_eqNilT {X : Cx} (hu : X.A.units + 64 < cLine) : OpR X (compareOp .Eq) (rNilT X.K) := by
  intro pins s σ H x y v u Q I rx ry h
  obtain ⟨a, b, xs, rfl, rfl, ha, hb, q⟩ := h
  obtain rfl : v = Value.ref a := rx
  obtain rfl : u = Value.ref b := ry
  obtain ⟨its, rv, p1, _⟩ := I.tuple ha
  obtain ⟨its2, rv2, p2, _⟩ := I.tuple hb
  cases rv2
  refine SeqAt.eq_tupleAt (e := fun _ => true) p1 p2 (by omega) (fun j h1 h2 => absurd h2 (Nat.not_lt_zero j)) ⟨.bl xs.isEmpty, H, I, ?_, q⟩
  cases xs with
  | nil => cases rv; rfl
  | cons z zs =>
    cases rv with
    | cons r t =>
      show Value.bool _ = Value.bool _
      simp

/-! ### comprehensions -/
theorem Kp.D {W : Addr → Prop} {H H' : Hp} {D : Addr} {o : HO} (k : Kp W H H') : Kp (fun a => W a ∨ a = D) H (L2.upd H' D o) := fun a u n e => by
  rw [upd_ne (fun z => n (.inr z))]
  exact k a u (fun z => n (.inl z)) e
/-- each turn gives one value -/
theorem lc_rel {J : It} {n : Nat} {G : Hp → Prop} {Y : Nat → Hp → V → Hp → Prop} (w : Walk J n G Y) {g : TG} {te : TE} {vs : List Nat} {σ : L2.St} {H1 : Hp} {D : Addr} {Qd : Hp → Prop} (W : Addr → Prop) (R : Hp → Nat → V → Prop)
    (st : ∀ H H' i v, Kp (fun a => W a ∨ a = D) H H' → R H i v → R H' i v) (nD : H1 D = none) (hW : ∀ a, W a → H1 a ≠ none) (hn : n ≤ 1000) (hG : ∀ H, Kp W H1 H → G H)
    (hs : ∀ (i : Nat) (x : V) (H H' : Hp) (Q : VK), i < n → Kp W H1 H → H D ≠ none → Y i H x H' → (∀ y H4, Kp W H H4 → R H4 i y → Q y H4) → g x (wipe σ vs) H' fun σ2 H2 => wipe σ2 vs = wipe σ vs ∧ te σ2 H2 Q)
    (hd : ∀ H acc, Kp W H1 H → H D = some (.lst acc) → acc.length = n → (∀ i v, acc[i]? = some v → R H i v) → Qd H) :
    ∃ W : Nat → Nat → Hp → Prop, (∃ m, W 0 m (upd H1 D (.lst []))) ∧ ∀ i m H, W i m H →
      (J.stop i H ∧ Qd H) ∨ (J.go i H ∧ ∃ Nx : Hp → Prop, (∀ H', Nx H' → ∃ m', m' < m ∧ W (i + 1) m' H') ∧ ∀ x H', J.yld i H x H' → g x (wipe σ vs) H' fun σ2 H2 => wipe σ2 vs = wipe σ vs ∧ tYes σ2 H2 fun b H3 =>
        if b = true then te σ2 H3 fun y H4 => ∃ acc, H4 D = some (.lst acc) ∧ acc.length < sizeLine ∧ Nx (upd H4 D (.lst (acc ++ [y]))) else Nx H3) := by
  have wD : ¬ W D := fun z => hW D z nD
  refine lc_it w (fun i H => Kp W H1 H ∧ ∃ acc, H D = some (.lst acc) ∧ acc.length = i ∧ ∀ j v, acc[j]? = some v → R H j v) ⟨(Kp.refl _).upd nD, [], upd_same, rfl, fun j v e => by simp at e⟩ (fun i H _ p => hG H p.1) ?_ ?_
  · rintro i x H H' hi ⟨k, acc, eD, hl, ha⟩ y
    refine hs i x H H' _ hi k (by rw [eD]; exact fun z => nomatch z) y fun v H4 k4 r => ?_
    refine ⟨acc, k4 _ _ wD eD, sz63' (by omega), (k.trans k4).upd nD, acc ++ [v], upd_same, by rw [List.length_append, hl]; rfl, fun j u e => ?_⟩
    rw [List.getElem?_append] at e
    split at e
    · exact st _ _ _ _ (k4.D) (ha j u e)
    · have hj : j - acc.length = 0 := by
        cases q : j - acc.length with
        | zero => rfl
        | succ m =>
          rw [q] at e
          simp at e
      have hj2 : j = i := by omega
      rw [hj] at e
      obtain rfl : v = u := by simpa using e
      rw [hj2]
      exact st _ _ _ _ ((Kp.refl _).D) r
  · rintro H ⟨k, acc, eD, hl, ha⟩
    exact hd H acc k eD hl ha
theorem bls_of : ∀ {acc : List V} {bs : List Bool}, acc.length = bs.length → (∀ (i : Nat) v, acc[i]? = some v → ∃ b, v = .bl b ∧ bs[i]? = some b) → acc = bs.map V.bl
  | [], [], _, _ => rfl
  | [], _ :: _, h, _ => by simp at h
  | _ :: _, [], h, _ => by simp at h
  | v :: acc, b :: bs, h, k => by
    obtain ⟨b', rfl, e⟩ := k 0 v rfl
    have e' : b = b' := by simpa using e
    subst e'
    rw [bls_of (acc := acc) (bs := bs) (by simpa using h) fun i v e => k (i + 1) v e]
    rfl
theorem dqAll_of {W : Addr → Prop} {H : Hp} : ∀ {acc : List V} {ds : List PyData}, acc.length = ds.length → (∀ (i : Nat) v, acc[i]? = some v → ∃ d, ds[i]? = some d ∧ Dq W H v d) → DqAll W H acc ds
  | [], [], _, _ => .nil
  | [], _ :: _, h, _ => by simp at h
  | _ :: _, [], h, _ => by simp at h
  | v :: acc, d :: ds, h, k => by
    obtain ⟨d', e, hd⟩ := k 0 v rfl
    have e' : d = d' := by simpa using e
    subst e'
    exact .cons hd (dqAll_of (by simpa using h) fun i v e => k (i + 1) v e)
theorem refs_of {P : Nat → Addr → Prop} : ∀ {acc : List V}, (∀ (i : Nat) v, acc[i]? = some v → ∃ l, v = .ref l ∧ P i l) → ∃ ls : List Addr, acc = ls.map V.ref ∧ ∀ (i : Nat) l, ls[i]? = some l → P i l := by
  intro acc
  induction acc generalizing P with
  | nil => exact fun _ => ⟨[], rfl, fun i l e => by simp at e⟩
  | cons v acc ih =>
    intro h
    obtain ⟨l, rfl, p⟩ := h 0 v rfl
    obtain ⟨ls, rfl, k⟩ := ih (P := fun i => P (i + 1)) fun i v e => h (i + 1) v e
    refine ⟨l :: ls, rfl, fun i a e => ?_⟩
    cases i with
    | zero =>
      have : l = a := by simpa using e
      rw [← this]
      exact p
    | succ i => exact k i a e
/-- a list told place by place -/
theorem list_of {n : Nat} {f : Nat → V} {acc : List V} (hl : acc.length = n) (h : ∀ (i : Nat) v, acc[i]? = some v → v = f i) : acc = (List.range n).map f := by
  apply List.ext_getElem?
  intro i
  by_cases c : i < n
  · have e : acc[i]? = some acc[i] := List.getElem?_eq_getElem (by omega)
    rw [e, h i _ e, List.getElem?_map, List.getElem?_range c]
    rfl
  · rw [List.getElem?_eq_none (by omega), List.getElem?_eq_none (by rw [List.length_map, List.length_range]; omega)]
theorem DqAll.get {W : Addr → Prop} {H : Hp} {xs : List V} {ds : List PyData} (h : DqAll W H xs ds) {i : Nat} {v : V} (e : xs[i]? = some v) : ∃ d, ds[i]? = some d ∧ Dq W H v d := h.at e
/-- the things that a test lets, by name -/
theorem lc_filt {J : It} {n : Nat} {G : Hp → Prop} {Y : Nat → Hp → V → Hp → Prop} (w : Walk J n G Y) {tt : TT} {vs : List Nat} {σ : L2.St} {H1 : Hp} {D : Addr} {jx : Nat} {Qd : Hp → Prop} (P : Nat → Prop)
    (nD : H1 D = none) (hn : n ≤ 1000) (hj : ∀ x : V, (wipe σ vs).set jx (some x) = (wipe σ vs).set jx (some x) → ((wipe σ vs).set jx (some x))[jx]? = some (some x)) (hw : ∀ x : V, wipe ((wipe σ vs).set jx (some x)) vs = wipe σ vs)
    (hG : ∀ H, Same H1 H → G H) (hY : ∀ i H x H', i < n → G H → Y i H x H' → H' = H)
    (hs : ∀ (i : Nat) (x : V) (H : Hp) (T : Bool → Hp → Prop), i < n → Same H1 H → H D ≠ none → Y i H x H → (∀ b H3, (b = true ↔ P i) → Same H H3 → T b H3) → tt ((wipe σ vs).set jx (some x)) H T)
    (hd : ∀ H acc, Same H1 H → H D = some (.lst acc) → (acc = [] ↔ ∀ i, i < n → ¬ P i) → Qd H) :
    ∃ W : Nat → Nat → Hp → Prop, (∃ m, W 0 m (upd H1 D (.lst []))) ∧ ∀ i m H, W i m H →
      (J.stop i H ∧ Qd H) ∨ (J.go i H ∧ ∃ Nx : Hp → Prop, (∀ H', Nx H' → ∃ m', m' < m ∧ W (i + 1) m' H') ∧ ∀ x H', J.yld i H x H' → gName jx x (wipe σ vs) H' fun σ2 H2 => wipe σ2 vs = wipe σ vs ∧ tt σ2 H2 fun b H3 =>
        if b = true then tVar jx σ2 H3 fun y H4 => ∃ acc, H4 D = some (.lst acc) ∧ acc.length < sizeLine ∧ Nx (upd H4 D (.lst (acc ++ [y]))) else Nx H3) := by
  refine lc_it w (fun i H => Same H1 H ∧ ∃ acc, H D = some (.lst acc) ∧ acc.length ≤ i ∧ (acc = [] ↔ ∀ j, j < i → ¬ P j)) ⟨same_new nD, [], upd_same, Nat.le_refl _, by simp⟩ (fun i H _ p => hG H p.1) ?_ ?_
  · rintro i x H H' hi ⟨k, acc, eD, hl, ha⟩ y
    obtain rfl := hY i H x H' hi (hG H k) y
    refine ⟨hw x, hs i x _ _ hi k (by rw [eD]; exact fun z => nomatch z) y fun b H3 hb k3 => ?_⟩
    have eD3 := k3 _ _ eD
    cases b with
    | true =>
      rw [if_pos rfl]
      refine ⟨x, hj x rfl, acc, eD3, sz63' (by omega), same_mut (k.trans k3) nD, acc ++ [x], upd_same, by rw [List.length_append]; simp; omega, ?_⟩
      constructor
      · intro z
        simp at z
      · intro z
        exact absurd (hb.mp rfl) (z i (by omega))
    | false =>
      rw [if_neg Bool.false_ne_true]
      have hb' : ¬ P i := fun z => Bool.false_ne_true (hb.mpr z)
      refine ⟨k.trans k3, acc, eD3, by omega, ha.trans ⟨fun z j hj => ?_, fun z j hj => z j (by omega)⟩⟩
      by_cases c : j = i
      · rw [c]
        exact hb'
      · exact z j (by omega)
  · rintro H ⟨k, acc, eD, hl, ha⟩
    exact hd H acc k eD ha

theorem same_tup {K : PySem.W.Frag} {a : Addr} {H H' : Hp} {xs : List V} (k : Same H H') (s : SqT K H a xs) : SqT K H' a xs := by
  rcases s with (e | ⟨o, e⟩) | e
  · exact .inl (.inl (k _ _ e))
  · exact .inl (.inr ⟨o, k _ _ e⟩)
  · exact .inr e
/-- the numbers below n that a test lets -/
theorem lc_filtR {n : Nat} {tt : TT} {vs : List Nat} {σ : L2.St} {H1 : Hp} {D : Addr} {jx : Nat} {Qd : Hp → Prop} (p : Nat → Bool) (nD : H1 D = none) (hn : n ≤ 1000)
    (hj : ∀ x : V, (wipe σ vs).set jx (some x) = (wipe σ vs).set jx (some x) → ((wipe σ vs).set jx (some x))[jx]? = some (some x)) (hw : ∀ x : V, wipe ((wipe σ vs).set jx (some x)) vs = wipe σ vs)
    (hs : ∀ (i : Nat) (H : Hp) (T : Bool → Hp → Prop), i < n → Same H1 H → H D ≠ none → (∀ H3, Same H H3 → T (p i) H3) → tt ((wipe σ vs).set jx (some (.int i))) H T)
    (hd : ∀ H, Same H1 H → H D = some (.lst (((List.range n).filter p).map fun i : Nat => V.int i)) → Qd H) :
    ∃ W : Nat → Nat → Hp → Prop, (∃ m, W 0 m (upd H1 D (.lst []))) ∧ ∀ i m H, W i m H →
      ((Itr 0 n).stop i H ∧ Qd H) ∨ ((Itr 0 n).go i H ∧ ∃ Nx : Hp → Prop, (∀ H', Nx H' → ∃ m', m' < m ∧ W (i + 1) m' H') ∧ ∀ x H', (Itr 0 n).yld i H x H' → gName jx x (wipe σ vs) H' fun σ2 H2 => wipe σ2 vs = wipe σ vs ∧ tt σ2 H2 fun b H3 =>
        if b = true then tVar jx σ2 H3 fun y H4 => ∃ acc, H4 D = some (.lst acc) ∧ acc.length < sizeLine ∧ Nx (upd H4 D (.lst (acc ++ [y]))) else Nx H3) := by
  refine lc_it (walk_range (lo := 0) (n := n)) (fun i H => Same H1 H ∧ H D = some (.lst (((List.range i).filter p).map fun i : Nat => V.int i))) ⟨same_new nD, upd_same⟩ (fun i H _ p => trivial) ?_ (fun H ⟨s, e⟩ => hd H s e)
  rintro i x H H' hi ⟨s, eD⟩ ⟨rfl, rfl⟩
  have e0 : (0 : Int) + ((i : Nat) : Int) = ((i : Nat) : Int) := by omega
  refine ⟨hw _, ?_⟩
  dsimp only
  rw [e0]
  refine hs i _ _ hi s (by rw [eD]; exact fun z => nomatch z) fun H3 s3 => ?_
  have eD3 := s3 _ _ eD
  have er : (List.range (i + 1)).filter p = (List.range i).filter p ++ (if p i then [i] else []) := by
    rw [List.range_succ, List.filter_append]
    congr 1
    simp [List.filter_cons]
  cases hp : p i with
  | true =>
    rw [if_pos rfl]
    refine ⟨_, hj _ rfl, _, eD3, ?_, same_mut (s.trans s3) nD, ?_⟩
    · rw [List.length_map]
      have h1 := List.length_filter_le p (List.range i)
      rw [List.length_range] at h1
      exact sz63' (by omega)
    · rw [upd_same, er, hp, List.map_append]
      rfl
  | false =>
    rw [if_neg Bool.false_ne_true]
    refine ⟨s.trans s3, ?_⟩
    rw [eD3, er, hp]
    simp
theorem inV_nat (t : Nat) : ∀ S : List Nat, inV (.int t) (S.map fun i : Nat => V.int i) = decide (t ∈ S)
  | [] => rfl
  | a :: S => by
    have h : inV (.int t) ((a :: S).map fun i : Nat => V.int i) = (eqV (.int a) (.int t) || inV (.int t) (S.map fun i : Nat => V.int i)) := rfl
    rw [h, inV_nat t S]
    have h2 : eqV (.int (a : Int)) (.int (t : Int)) = decide ((a : Int) = t) := by
      unfold eqV
      simp
      try rfl
    rw [h2, ← Bool.decide_or]
    refine decide_eq_decide.mpr ⟨fun z => ?_, fun z => ?_⟩
    · rcases z with z | z
      · have : t = a := by omega
        rw [this]
        exact List.mem_cons_self
      · exact List.mem_cons_of_mem _ z
    · rcases List.mem_cons.mp z with z | z
      · exact .inl (by omega)
      · exact .inr z
theorem flat_nat (S : List Nat) : (S.map fun i : Nat => V.int i).all flatV = true := by
  rw [List.all_map, List.all_eq_true]
  exact fun _ _ => rfl
/-! ### fractions -/
def frD (q : Rat) : PyData := .tuple [.int q.num, .int q.den]
/-- the fraction q, any tuple that is read -/
def FrR (K : PySem.W.Frag) (H : Hp) (v : V) (q : Rat) : Prop := ∃ a, v = .ref a ∧ SqT K H a [.int q.num, .int q.den]
theorem Dq.tupI {W : Addr → Prop} {H : Hp} {v : V} {ds : List PyData} (h : Dq W H v (.tuple ds)) : ∃ a xs, v = .ref a ∧ ¬ W a ∧ H a = some (.tup xs) ∧ DqAll W H xs ds := by
  cases h with
  | tup n e h => exact ⟨_, _, rfl, n, e, h⟩
theorem Dq.intI {W : Addr → Prop} {H : Hp} {v : V} {i : Int} (h : Dq W H v (.int i)) : v = .int i := by
  cases h
  rfl
theorem DqAll.two {W : Addr → Prop} {H : Hp} {xs : List V} {d e : PyData} (h : DqAll W H xs [d, e]) : ∃ x y, xs = [x, y] ∧ Dq W H x d ∧ Dq W H y e := by
  cases h with
  | cons h1 t =>
    cases t with
    | cons h2 t =>
      cases t
      exact ⟨_, _, rfl, h1, h2⟩
theorem Dq.frI {W : Addr → Prop} {H : Hp} {v : V} {q : Rat} (h : Dq W H v (frD q)) : ∃ a, v = .ref a ∧ ¬ W a ∧ H a = some (.tup [.int q.num, .int q.den]) := by
  obtain ⟨a, xs, rfl, n, e, h⟩ := h.tupI
  obtain ⟨x, y, rfl, h1, h2⟩ := h.two
  rw [h1.intI, h2.intI] at e
  exact ⟨a, rfl, n, e⟩
theorem Dq.fr {W : Addr → Prop} {H : Hp} {v : V} {q : Rat} {K : PySem.W.Frag} (h : Dq W H v (frD q)) : FrR K H v q := by
  obtain ⟨a, rfl, _, e⟩ := h.frI
  exact ⟨a, rfl, .of e⟩
theorem fr_dq {W : Addr → Prop} {H : Hp} {a : Addr} {q : Rat} (n : ¬ W a) (e : H a = some (.tup [.int q.num, .int q.den])) : Dq W H (.ref a) (frD q) := .tup n e (.cons (.int _) (.cons (.int _) .nil))
theorem FrR.same {K : PySem.W.Frag} {H H' : Hp} {v : V} {q : Rat} (s : Same H H') (h : FrR K H v q) : FrR K H' v q := by
  obtain ⟨a, rfl, h⟩ := h
  exact ⟨a, rfl, same_tup s h⟩
/-- the frD of q tells q -/
theorem frD_inj {p q : Rat} (h : frD p = frD q) : p = q := by
  unfold frD at h
  simp only [PyData.tuple.injEq, List.cons.injEq, PyData.int.injEq, and_true] at h
  obtain ⟨h1, h2⟩ := h
  exact Rat.ext h1 (by omega)

/-! ### sizes of data -/
mutual
def Bd (n : Nat) : PyData → Prop
  | .int i => i.natAbs < 2 ^ n
  | .list xs => BdAll n xs
  | .tuple xs => BdAll n xs
  | _ => True
def BdAll (n : Nat) : List PyData → Prop
  | [] => True
  | d :: ds => Bd n d ∧ BdAll n ds
end
theorem bdAll_iff {n : Nat} : ∀ {ds : List PyData}, BdAll n ds ↔ ∀ d ∈ ds, Bd n d
  | [] => by simp [BdAll]
  | d :: ds => by simp [BdAll, bdAll_iff]
theorem bd_fr {n : Nat} {q : Rat} : Bd n (frD q) ↔ Bq.Sz n q := by
  simp [frD, Bd, BdAll, Bq.Sz]
end Bw
/-! Part 8. Fractions, rows, tables, walks among all data; what leads where. Plain mathematics. -/
namespace Bw
open PySem

def isNum : PyData → Bool
  | .int _ => true
  | _ => false
def isFr : PyData → Bool
  | .tuple [.int a, .int b] => decide (0 < b) && decide (Nat.gcd a.natAbs b.natAbs = 1)
  | _ => false
def isFr0 : PyData → Bool
  | .tuple [.int a, .int b] => decide (0 < b) && decide (Nat.gcd a.natAbs b.natAbs = 1) && decide (0 ≤ a)
  | _ => false
def isRow (k : Nat) : PyData → Bool
  | .tuple ds => decide (ds.length = k) && ds.all isFr0
  | _ => false
def isTable : PyData → Bool
  | .tuple ds => decide (1 ≤ ds.length ∧ ds.length ≤ 6) && ds.all (isRow ds.length)
  | _ => false
def rowD (r : List Rat) : PyData := .tuple (r.map frD)
def tabD (m : List (List Rat)) : PyData := .tuple (m.map rowD)
/-- a table of 1 to 6 places -/
structure Tab (m : List (List Rat)) : Prop where
  l1 : 1 ≤ m.length
  l6 : m.length ≤ 6
  rows : ∀ r ∈ m, r.length = m.length
  nil : ∀ r ∈ m, ∀ q ∈ r, 0 ≤ q

theorem isFr_iff {d : PyData} : isFr d = true ↔ ∃ q, d = frD q := by
  constructor
  · intro h
    unfold isFr at h
    split at h
    · rename_i a b
      simp only [Bool.and_eq_true, decide_eq_true_eq] at h
      obtain ⟨q, rfl, rfl⟩ := (Bq.low_iff h.1).mp h.2
      exact ⟨q, rfl⟩
    · cases h
  · rintro ⟨q, rfl⟩
    have h1 := Bq.den_pos q
    have h2 := (Bq.low_iff (a := q.num) h1).mpr ⟨q, rfl, rfl⟩
    unfold isFr frD
    simp only [h1, decide_true, Bool.true_and, decide_eq_true_eq]
    exact h2
theorem isFr0_iff {d : PyData} : isFr0 d = true ↔ ∃ q : Rat, d = frD q ∧ 0 ≤ q := by
  constructor
  · intro h
    unfold isFr0 at h
    split at h
    · rename_i a b
      simp only [Bool.and_eq_true, decide_eq_true_eq] at h
      obtain ⟨q, rfl, rfl⟩ := (Bq.low_iff h.1.1).mp h.1.2
      exact ⟨q, rfl, Bq.num_nonneg.mp h.2⟩
    · cases h
  · rintro ⟨q, rfl, h⟩
    have h1 := Bq.den_pos q
    have h2 := (Bq.low_iff (a := q.num) h1).mpr ⟨q, rfl, rfl⟩
    unfold isFr0 frD
    simp only [h1, decide_true, Bool.true_and, Bool.and_eq_true, decide_eq_true_eq]
    exact ⟨h2, Bq.num_nonneg.mpr h⟩
theorem all_fr0 : ∀ {ds : List PyData}, ds.all isFr0 = true → ∃ r : List Rat, ds = r.map frD ∧ ∀ q ∈ r, 0 ≤ q
  | [], _ => ⟨[], rfl, fun q h => by simp at h⟩
  | d :: ds, h => by
    rw [List.all_cons, Bool.and_eq_true] at h
    obtain ⟨q, rfl, h0⟩ := isFr0_iff.mp h.1
    obtain ⟨r, rfl, hr⟩ := all_fr0 h.2
    exact ⟨q :: r, rfl, fun x hx => by
      rcases List.mem_cons.mp hx with rfl | hx
      · exact h0
      · exact hr x hx⟩
theorem isRow_iff {k : Nat} {d : PyData} : isRow k d = true ↔ ∃ r : List Rat, d = rowD r ∧ r.length = k ∧ ∀ q ∈ r, 0 ≤ q := by
  constructor
  · intro h
    unfold isRow at h
    split at h
    · rename_i ds
      simp only [Bool.and_eq_true, decide_eq_true_eq] at h
      obtain ⟨r, rfl, hr⟩ := all_fr0 h.2
      exact ⟨r, rfl, by rw [← h.1, List.length_map], hr⟩
    · cases h
  · rintro ⟨r, rfl, rfl, h⟩
    unfold isRow rowD
    simp only [List.length_map, decide_true, Bool.true_and, List.all_eq_true, List.mem_map]
    rintro d ⟨q, hq, rfl⟩
    exact isFr0_iff.mpr ⟨q, rfl, h q hq⟩
theorem all_row {k : Nat} : ∀ {ds : List PyData}, ds.all (isRow k) = true → ∃ m : List (List Rat), ds = m.map rowD ∧ ∀ r ∈ m, r.length = k ∧ ∀ q ∈ r, 0 ≤ q
  | [], _ => ⟨[], rfl, fun q h => by simp at h⟩
  | d :: ds, h => by
    rw [List.all_cons, Bool.and_eq_true] at h
    obtain ⟨r, rfl, hl, h0⟩ := isRow_iff.mp h.1
    obtain ⟨m, rfl, hm⟩ := all_row h.2
    exact ⟨r :: m, rfl, fun x hx => by
      rcases List.mem_cons.mp hx with rfl | hx
      · exact ⟨hl, h0⟩
      · exact hm x hx⟩
theorem isTable_iff {d : PyData} : isTable d = true ↔ ∃ m, d = tabD m ∧ Tab m := by
  constructor
  · intro h
    unfold isTable at h
    split at h
    · rename_i ds
      simp only [Bool.and_eq_true, decide_eq_true_eq] at h
      obtain ⟨m, e, hm⟩ := all_row h.2
      have hl : ds.length = m.length := by rw [e, List.length_map]
      refine ⟨m, by rw [e]; rfl, ⟨by omega, by omega, fun r hr => by rw [(hm r hr).1, hl], fun r hr => (hm r hr).2⟩⟩
    · cases h
  · rintro ⟨m, rfl, T⟩
    unfold isTable tabD
    simp only [List.length_map, Bool.and_eq_true, decide_eq_true_eq, List.all_eq_true, List.mem_map]
    refine ⟨⟨T.l1, T.l6⟩, ?_⟩
    rintro d ⟨r, hr, rfl⟩
    exact isRow_iff.mpr ⟨r, rfl, T.rows r hr, T.nil r hr⟩
theorem map_inj {α β : Type} {f : α → β} (h : ∀ a b, f a = f b → a = b) : ∀ {l m : List α}, l.map f = m.map f → l = m
  | [], [], _ => rfl
  | [], _ :: _, e => by simp at e
  | _ :: _, [], e => by simp at e
  | a :: l, b :: m, e => by
    simp only [List.map_cons, List.cons.injEq] at e
    rw [h a b e.1, map_inj h e.2]
theorem rowD_inj {r s : List Rat} (h : rowD r = rowD s) : r = s := by
  unfold rowD at h
  simp only [PyData.tuple.injEq] at h
  exact map_inj (fun _ _ => frD_inj) h
theorem tabD_inj {m n : List (List Rat)} (h : tabD m = tabD n) : m = n := by
  unfold tabD at h
  simp only [PyData.tuple.injEq] at h
  exact map_inj (fun _ _ => rowD_inj) h

theorem bd_row {n : Nat} {r : List Rat} : Bd n (rowD r) ↔ ∀ q ∈ r, Bq.Sz n q := by
  unfold rowD
  rw [Bd, bdAll_iff]
  constructor
  · intro h q hq
    exact bd_fr.mp (h _ (List.mem_map.mpr ⟨q, hq, rfl⟩))
  · rintro h d hd
    obtain ⟨q, hq, rfl⟩ := List.mem_map.mp hd
    exact bd_fr.mpr (h q hq)
theorem bd_tab {n : Nat} {m : List (List Rat)} : Bd n (tabD m) ↔ ∀ r ∈ m, ∀ q ∈ r, Bq.Sz n q := by
  unfold tabD
  rw [Bd, bdAll_iff]
  constructor
  · intro h r hr
    exact bd_row.mp (h _ (List.mem_map.mpr ⟨r, hr, rfl⟩))
  · rintro h d hd
    obtain ⟨r, hr, rfl⟩ := List.mem_map.mp hd
    exact bd_row.mpr (h r hr)
theorem map_some {α β : Type} {f : α → β} {l : List α} {i : Nat} {y : β} (h : (l.map f)[i]? = some y) : ∃ x, l[i]? = some x ∧ f x = y := by
  rw [List.getElem?_map] at h
  cases z : l[i]? with
  | none =>
    rw [z] at h
    cases h
  | some x =>
    rw [z] at h
    exact ⟨x, rfl, Option.some.inj h⟩
/-! ### what leads where -/
inductive Reach (E : Nat → Nat → Prop) (a : Nat) : Nat → Prop
  | refl : Reach E a a
  | step {b c : Nat} : Reach E a b → E b c → Reach E a c
theorem Reach.trans {E : Nat → Nat → Prop} {a b c : Nat} (h : Reach E a b) (k : Reach E b c) : Reach E a c := by
  induction k with
  | refl => exact h
  | step _ e ih => exact .step ih e
theorem Reach.one {E : Nat → Nat → Prop} {a b : Nat} (h : E a b) : Reach E a b := .step .refl h
theorem Reach.back {E : Nat → Nat → Prop} {a b : Nat} (h : Reach (fun x y => E y x) a b) : Reach E b a := by
  induction h with
  | refl => exact .refl
  | step _ e ih => exact (Reach.one (E := E) e).trans ih
theorem Reach.mono {E F : Nat → Nat → Prop} {a b : Nat} (m : ∀ x y, E x y → F x y) (h : Reach E a b) : Reach F a b := by
  induction h with
  | refl => exact .refl
  | step _ e ih => exact .step ih (m _ _ e)
/-- what has the start, only what it leads to, and all that this leads to, is all of that -/
theorem reach_of {E : Nat → Nat → Prop} {a : Nat} {S : Nat → Prop} (h0 : S a) (hs : ∀ x y, S x → E x y → S y) {b : Nat} (h : Reach E a b) : S b := by
  induction h with
  | refl => exact h0
  | step _ e ih => exact hs _ _ ih e
theorem nodup_len : ∀ (n : Nat) (l : List Nat), l.Nodup → (∀ x ∈ l, x < n) → l.length ≤ n ∧ (l.length = n → ∀ j, j < n → j ∈ l)
  | 0, l, _, h => by
    cases l with
    | nil => exact ⟨Nat.le_refl _, fun _ j hj => absurd hj (Nat.not_lt_zero j)⟩
    | cons a l => exact absurd (h a List.mem_cons_self) (Nat.not_lt_zero a)
  | n + 1, l, nd, h => by
    by_cases c : n ∈ l
    · have hl := List.length_erase_of_mem c
      have hp : 0 < l.length := List.length_pos_of_mem c
      obtain ⟨h1, h2⟩ := nodup_len n (l.erase n) (nd.erase n) fun x hx => by
        have h3 := h x (List.mem_of_mem_erase hx)
        have h4 : x ≠ n := fun e => by
          rw [e] at hx
          exact (List.Nodup.not_mem_erase nd) hx
        omega
      refine ⟨by omega, fun e j hj => ?_⟩
      by_cases c2 : j = n
      · rw [c2]
        exact c
      · exact List.mem_of_mem_erase (h2 (by omega) j (by omega))
    · obtain ⟨h1, h2⟩ := nodup_len n l nd fun x hx => by
        have h3 := h x hx
        have h4 : x ≠ n := fun e => c (by rw [← e]; exact hx)
        omega
      exact ⟨by omega, fun e => by omega⟩
/-- the chance from a to b is above 0 -/
def Ed (m : List (List Rat)) (a b : Nat) : Prop := ∃ r q, m[a]? = some r ∧ r[b]? = some q ∧ 0 < q
def Strong (m : List (List Rat)) : Prop := ∀ a b, a < m.length → b < m.length → Reach (Ed m) a b
def IsWalk (d : PyData) : Prop := ∃ m, d = tabD m ∧ Tab m ∧ Strong m ∧ ∀ r ∈ m, Bq.sumQ r = 1
theorem strong_iff {m : List (List Rat)} (h : 1 ≤ m.length) : Strong m ↔ (∀ j, j < m.length → Reach (Ed m) 0 j) ∧ ∀ j, j < m.length → Reach (fun x y => Ed m y x) 0 j := by
  constructor
  · intro s
    refine ⟨fun j hj => s 0 j (by omega) hj, fun j hj => ?_⟩
    exact Reach.back (E := fun x y => Ed m y x) (s j 0 hj (by omega))
  · rintro ⟨h1, h2⟩ a b ha hb
    exact (Reach.back (h2 a ha)).trans (h1 b hb)
/-- the chances above 0, as truths -/
def posB (m : List (List Rat)) (i j : Nat) : Bool := match m[i]? with
  | some r => match r[j]? with
    | some q => decide (0 < q)
    | none => false
  | none => false
def LE (n : Nat) (B : Nat → Nat → Bool) : Nat → Nat → Prop := fun x y => x < n ∧ y < n ∧ B x y = true
theorem posB_of {m : List (List Rat)} {i j : Nat} {r : List Rat} {q : Rat} (h : m[i]? = some r) (k : r[j]? = some q) : posB m i j = decide (0 < q) := by
  unfold posB
  rw [h]
  dsimp only
  rw [k]
theorem ed_iff {m : List (List Rat)} (T : Tab m) {a b : Nat} : Ed m a b ↔ LE m.length (posB m) a b := by
  constructor
  · rintro ⟨r, q, h1, h2, h3⟩
    have ha := (List.getElem?_eq_some_iff.mp h1).1
    have hb := (List.getElem?_eq_some_iff.mp h2).1
    rw [T.rows r (List.mem_of_getElem? h1)] at hb
    exact ⟨ha, hb, by rw [posB_of h1 h2]; exact decide_eq_true h3⟩
  · rintro ⟨h1, h2, h3⟩
    have e1 : m[a]? = some m[a] := List.getElem?_eq_getElem h1
    have hl := T.rows _ (List.mem_of_getElem? e1)
    have e2 : m[a][b]? = some (m[a][b]'(by omega)) := List.getElem?_eq_getElem (by omega)
    rw [posB_of e1 e2] at h3
    exact ⟨_, _, e1, e2, of_decide_eq_true h3⟩
theorem strong_by {m : List (List Rat)} (T : Tab m) : Strong m ↔ (∀ j, j < m.length → Reach (LE m.length (posB m)) 0 j) ∧ ∀ j, j < m.length → Reach (LE m.length fun x y => posB m y x) 0 j := by
  rw [strong_iff T.l1]
  refine and_congr (forall_congr' fun j => imp_congr_right fun _ => ⟨Reach.mono fun x y e => (ed_iff T).mp e, Reach.mono fun x y e => (ed_iff T).mpr e⟩) (forall_congr' fun j => imp_congr_right fun _ => ⟨Reach.mono fun x y e => ?_, Reach.mono fun x y e => ?_⟩)
  · obtain ⟨h1, h2, h3⟩ := (ed_iff T).mp e
    exact ⟨h2, h1, h3⟩
  · obtain ⟨h1, h2, h3⟩ := e
    exact (ed_iff T).mpr ⟨h2, h1, h3⟩
theorem Ed.lt {m : List (List Rat)} (T : Tab m) {a b : Nat} (h : Ed m a b) : a < m.length ∧ b < m.length := by
  obtain ⟨r, q, h1, h2, _⟩ := h
  have ha := (List.getElem?_eq_some_iff.mp h1).1
  have hb := (List.getElem?_eq_some_iff.mp h2).1
  rw [T.rows r (List.mem_of_getElem? h1)] at hb
  exact ⟨ha, hb⟩
end Bw
/-! Part 9. The rules within a comprehension's element, where the frame is known by name. -/
namespace Bw
open PySem PySem.Spec PyProof.Rows L2
section
variable {X : Cx} {K : PySem.W.Frag} (h : X.K = K)
include h
theorem call_lenK : CallR X (.builtin "len") (fun xs H Q => ∃ p ys, xs = [.ref p] ∧ (SqL K H p ys ∨ SqT K H p ys) ∧ Q (.int ys.length) H) := by
  subst h
  exact call_len_seq
theorem ix_listK : IxR X (rIxL K) := by
  subst h
  exact ix_list
theorem ix_tupK : IxR X (rIxT K) := by
  subst h
  exact ix_tup
theorem ix_seqK : IxR X (rIx K) := by
  subst h
  exact ix_seq
theorem cr_allK (hc : X.calm = true) : CallR X (.builtin "all") (rAll K) := by
  subst h
  exact cr_all hc
theorem call_tupK : CallR X (.type "tuple") (fun xs H Q => ∃ p ys, xs = [.ref p] ∧ ((SqL K H p ys ∧ ∀ l, H l = none → Q (.ref l) (upd H l (.tup ys))) ∨ (SqT K H p ys ∧ Q (.ref p) H))) := by
  subst h
  exact call_tuple_of
theorem call_lstK : CallR X (.type "list") (fun xs H Q => ∃ p ys, xs = [.ref p] ∧ (SqL K H p ys ∨ SqT K H p ys) ∧ ∀ l, H l = none → Q (.ref l) (upd H l (.lst ys))) := by
  subst h
  exact call_list_of
theorem op_inK : OpR X (compareOp .In) (rIn K false) := by
  subst h
  exact op_in_seq
theorem op_notInK : OpR X (compareOp .NotIn) (rIn K true) := by
  subst h
  exact op_notIn_seq
theorem op_catAK : OpR X (binaryOp .Add) (rCatA K) := by
  subst h
  exact op_catA
theorem op_repTK : OpR X (binaryOp .Mult) (rRepT K) := by
  subst h
  exact op_repT
theorem sl_tupAK : SlR X (rSlA K) := by
  subst h
  exact sl_tupA
theorem sl_listK : SlR X (rSlL K) := by
  subst h
  exact sl_list
theorem op_eqDK (hu : X.A.units + 64 < cLine) : OpR X (compareOp .Eq) (rEqD K) := by
  subst h
  exact op_eqD hu
theorem op_neDK (hu : X.A.units + 64 < cLine) : OpR X (compareOp .NotEq) (rNeD K) := by
  subst h
  exact op_neD hu
theorem pi_tupK {tg l : Expr} {tl : TE} (hl : PE X l tl) : PI X tg l (iTup K tl) := by
  subst h
  exact pi_tup hl
theorem pi_listK {tg l : Expr} {tl : TE} (hl : PE X l tl) : PI X tg l (iList K tl) := by
  subst h
  exact pi_list hl
end

/-! ### one fraction compared with another -/
theorem fr_dp {K : PySem.W.Frag} {H : Hp} {v : V} {q : Rat} (h : FrR K H v q) : Dp K H v (frD q) := by
  obtain ⟨a, rfl, h⟩ := h
  exact .tup h (.cons (.int _) (.cons (.int _) .nil))
theorem fr_shaped (q : Rat) : SeqAt.shaped (frD q) = true := by
  unfold SeqAt.shaped frD
  simp [PyData.canLay0, PyData.canLayAll0, PyData.depth, PyData.depthAll]
theorem fr_eqv (p q : Rat) : PyData.eqv (frD p) (frD q) = decide (p = q) := by
  unfold frD
  have h : (p = q) ↔ (p.num = q.num ∧ (p.den : Int) = q.den) := ⟨fun z => by rw [z]; exact ⟨rfl, rfl⟩, fun z => Rat.ext z.1 (by omega)⟩
  have e : PyData.eqv (.tuple [.int p.num, .int p.den]) (.tuple [.int q.num, .int q.den]) = (decide (p.num = q.num) && decide ((p.den : Int) = q.den)) := by
    simp [PyData.eqv, PyData.eqvAll]
    try rfl
  rw [e, ← Bool.decide_and]
  exact decide_eq_decide.mpr h.symm
end Bw
/-! Part 10. Ears laid one after another: each place leads to each. Plain mathematics. -/
namespace Bw
def Lk (E : List (Nat × Nat)) (a b : Nat) : Prop := (a, b) ∈ E
theorem lk_app {E F : List (Nat × Nat)} {a b : Nat} (h : Reach (Lk E) a b) : Reach (Lk (E ++ F)) a b := h.mono fun _ _ e => List.mem_append_left _ e
structure Ears (n : Nat) (Kn L : List Nat) (E : List (Nat × Nat)) : Prop where
  nd : (Kn ++ L).Nodup
  len : Kn.length + L.length = n
  lt : ∀ x ∈ Kn ++ L, x < n
  elt : ∀ e ∈ E, e.1 < n ∧ e.2 < n
  con : ∀ a ∈ Kn, ∀ b ∈ Kn, Reach (Lk E) a b
  ne : Kn ≠ []
/-- within one ear: what it has come to, where it is -/
structure Ear (n : Nat) (Kn Fr L : List Nat) (E : List (Nat × Nat)) (cur : Nat) : Prop where
  nd : (Kn ++ (Fr ++ L)).Nodup
  len : Kn.length + (Fr.length + L.length) = n
  lt : ∀ x ∈ Kn ++ (Fr ++ L), x < n
  elt : ∀ e ∈ E, e.1 < n ∧ e.2 < n
  con : ∀ a ∈ Kn, ∀ b ∈ Kn, Reach (Lk E) a b
  fr : ∀ x ∈ Fr, (∃ k ∈ Kn, Reach (Lk E) k x) ∧ Reach (Lk E) x cur
  src : ∃ k ∈ Kn, Reach (Lk E) k cur
  clt : cur < n
theorem Ears.start {n : Nat} {Kn L : List Nat} {E : List (Nat × Nat)} (h : Ears n Kn L E) {c : Nat} (hc : c ∈ Kn) : Ear n Kn [] L E c :=
  ⟨h.nd, by have := h.len; simp; omega, h.lt, h.elt, h.con, fun x hx => by simp at hx, ⟨c, hc, .refl⟩, h.lt c (List.mem_append_left _ hc)⟩
theorem perm_erase : ∀ (L : List Nat) (i t : Nat), L[i]? = some t → List.Perm (t :: L.eraseIdx i) L
  | [], _, _, h => by simp at h
  | a :: L, 0, t, h => by
    have : a = t := by simpa using h
    rw [this]
    exact List.Perm.refl _
  | a :: L, i + 1, t, h => by
    have ih := perm_erase L i t (by simpa using h)
    exact (List.Perm.swap a t (L.eraseIdx i)).trans (ih.cons a)
theorem Ear.step {n : Nat} {Kn Fr L : List Nat} {E : List (Nat × Nat)} {cur i t : Nat} (h : Ear n Kn Fr L E cur) (e : L[i]? = some t) : Ear n Kn (Fr ++ [t]) (L.eraseIdx i) (E ++ [(cur, t)]) t := by
  obtain ⟨hi, et⟩ := List.getElem?_eq_some_iff.mp e
  have pm : List.Perm (t :: L.eraseIdx i) L := perm_erase L i t e
  have pm2 : List.Perm (Kn ++ ((Fr ++ [t]) ++ L.eraseIdx i)) (Kn ++ (Fr ++ L)) := by
    rw [List.append_assoc]
    exact (pm.append_left Fr).append_left Kn
  have htn : t < n := h.lt t (List.mem_append_right _ (List.mem_append_right _ (List.mem_of_getElem? e)))
  have one : Reach (Lk (E ++ [(cur, t)])) cur t := .one (List.mem_append_right _ (by simp))
  obtain ⟨k, hk, rk⟩ := h.src
  have kt : Reach (Lk (E ++ [(cur, t)])) k t := (lk_app rk).trans one
  refine ⟨pm2.nodup_iff.mpr h.nd, ?_, fun x hx => h.lt x (pm2.mem_iff.mp hx), fun e he => ?_, fun a ha b hb => lk_app (h.con a ha b hb), fun x hx => ?_, ⟨k, hk, kt⟩, htn⟩
  · have := pm2.length_eq
    simp only [List.length_append] at this ⊢
    have h2 := h.len
    omega
  · rcases List.mem_append.mp he with he | he
    · exact h.elt e he
    · have : e = (cur, t) := by simpa using he
      rw [this]
      exact ⟨h.clt, htn⟩
  · rcases List.mem_append.mp hx with hx | hx
    · obtain ⟨⟨k2, hk2, r2⟩, r3⟩ := h.fr x hx
      exact ⟨⟨k2, hk2, lk_app r2⟩, (lk_app r3).trans one⟩
    · have : x = t := by simpa using hx
      rw [this]
      exact ⟨⟨k, hk, kt⟩, .refl⟩
theorem Ear.close {n : Nat} {Kn Fr L : List Nat} {E : List (Nat × Nat)} {cur last : Nat} (h : Ear n Kn Fr L E cur) (hl : last ∈ Kn) : Ears n (Kn ++ Fr) L (E ++ [(cur, last)]) := by
  have one : Reach (Lk (E ++ [(cur, last)])) cur last := .one (List.mem_append_right _ (by simp))
  have to : ∀ a ∈ Kn ++ Fr, Reach (Lk (E ++ [(cur, last)])) a last := fun a ha => by
    rcases List.mem_append.mp ha with ha | ha
    · exact lk_app (h.con a ha last hl)
    · exact (lk_app (h.fr a ha).2).trans one
  have fro : ∀ b ∈ Kn ++ Fr, Reach (Lk (E ++ [(cur, last)])) last b := fun b hb => by
    rcases List.mem_append.mp hb with hb | hb
    · exact lk_app (h.con last hl b hb)
    · obtain ⟨k, hk, r⟩ := (h.fr b hb).1
      exact (lk_app (h.con last hl k hk)).trans (lk_app r)
  refine ⟨by rw [List.append_assoc]; exact h.nd, by have := h.len; simp only [List.length_append]; omega, by rw [List.append_assoc]; exact h.lt, fun e he => ?_, fun a ha b hb => (to a ha).trans (fro b hb), fun z => ?_⟩
  · rcases List.mem_append.mp he with he | he
    · exact h.elt e he
    · have : e = (cur, last) := by simpa using he
      rw [this]
      exact ⟨h.clt, h.lt last (List.mem_append_left _ hl)⟩
  · rw [List.append_eq_nil_iff] at z
    rw [z.1] at hl
    simp at hl
/-- all that is left is none: each place leads to each -/
theorem Ears.done {n : Nat} {Kn : List Nat} {E : List (Nat × Nat)} (h : Ears n Kn [] E) : (∀ e ∈ E, e.1 < n ∧ e.2 < n) ∧ ∀ a b, a < n → b < n → Reach (Lk E) a b := by
  have nd := h.nd
  rw [List.append_nil] at nd
  have hl := h.len
  have all := (nodup_len n Kn nd fun x hx => h.lt x (List.mem_append_left _ hx)).2 (by simpa using hl)
  exact ⟨h.elt, fun a b ha hb => h.con a (all a ha) b (all b hb)⟩
end Bw
/-! Part 11. Whole numbers in rows, each over its row's sum. Plain mathematics. -/
namespace Bw
open PySem
def rowQ (row : List Nat) : List Rat := row.map fun k => ((k : Nat) : Rat)
def overQ (row : List Nat) : List Rat := (rowQ row).map fun q => q / Bq.sumQ (rowQ row)
def walkM (M : List (List Nat)) : List (List Rat) := M.map overQ
theorem sum_nonneg : ∀ {qs : List Rat}, (∀ q ∈ qs, 0 ≤ q) → 0 ≤ Bq.sumQ qs
  | [], _ => by simp [Bq.sumQ]
  | q :: r, h => by
    have h1 := h q List.mem_cons_self
    have h2 := sum_nonneg (qs := r) fun x hx => h x (List.mem_cons_of_mem _ hx)
    rw [Bq.sumQ]
    grind
theorem sum_pos : ∀ {qs : List Rat}, (∀ q ∈ qs, 0 ≤ q) → (∃ q ∈ qs, 0 < q) → 0 < Bq.sumQ qs
  | [], _, h => by simp at h
  | q :: r, h, h2 => by
    have h1 := h q List.mem_cons_self
    have h3 := sum_nonneg (qs := r) fun x hx => h x (List.mem_cons_of_mem _ hx)
    rw [Bq.sumQ]
    obtain ⟨x, hx, h0⟩ := h2
    rcases List.mem_cons.mp hx with rfl | hx
    · grind
    · have := sum_pos (qs := r) (fun x hx => h x (List.mem_cons_of_mem _ hx)) ⟨x, hx, h0⟩
      grind
theorem sum_over (s : Rat) : ∀ qs : List Rat, Bq.sumQ (qs.map fun q => q / s) = Bq.sumQ qs / s
  | [] => by
    simp [Bq.sumQ]
    grind
  | q :: r => by
    rw [List.map_cons, Bq.sumQ, sum_over s r, Bq.sumQ]
    grind
theorem nat_nonneg (k : Nat) : (0 : Rat) ≤ ((k : Nat) : Rat) := by
  exact_mod_cast Nat.zero_le k
theorem nat_pos {k : Nat} (h : 0 < k) : (0 : Rat) < ((k : Nat) : Rat) := by
  exact_mod_cast h
theorem rowQ_nonneg {row : List Nat} : ∀ q ∈ rowQ row, (0 : Rat) ≤ q := fun q hq => by
  obtain ⟨k, _, rfl⟩ := List.mem_map.mp hq
  exact nat_nonneg k
theorem row_pos {row : List Nat} (h : ∃ k ∈ row, 0 < k) : 0 < Bq.sumQ (rowQ row) := by
  obtain ⟨k, hk, h0⟩ := h
  exact sum_pos rowQ_nonneg ⟨_, List.mem_map.mpr ⟨k, hk, rfl⟩, nat_pos h0⟩
theorem div_pos {a b : Rat} (ha : 0 < a) (hb : 0 < b) : 0 < a / b := by
  rw [Rat.div_def]
  exact Rat.mul_pos ha (Rat.inv_pos.mpr hb)
theorem div_nonneg {a b : Rat} (ha : 0 ≤ a) (hb : 0 < b) : 0 ≤ a / b := by
  rw [Rat.div_def]
  exact Rat.mul_nonneg ha (Rat.le_of_lt (Rat.inv_pos.mpr hb))
theorem nat_sz {n k : Nat} (h : k < 2 ^ n) (h1 : 1 ≤ n) : Bq.Sz n ((k : Nat) : Rat) := by
  refine ⟨?_, ?_⟩
  · rw [Rat.num_natCast]
    simpa using h
  · rw [Rat.den_natCast]
    exact Nat.one_lt_two_pow (by omega)
theorem nat_num (k : Nat) : ((k : Nat) : Rat).num = (k : Int) := Rat.num_natCast k
theorem nat_den (k : Nat) : ((k : Nat) : Rat).den = 1 := Rat.den_natCast k

/-- what is drawn is a walk -/
theorem walkM_tab {M : List (List Nat)} {n : Nat} (h1 : 1 ≤ n) (h6 : n ≤ 6) (hl : M.length = n) (hr : ∀ row ∈ M, row.length = n) (hp : ∀ row ∈ M, ∃ k ∈ row, 0 < k) : Tab (walkM M) := by
  have l : (walkM M).length = n := by
    unfold walkM
    rw [List.length_map, hl]
  refine ⟨by omega, by omega, fun r hr' => ?_, fun r hr' q hq => ?_⟩
  · obtain ⟨row, hm, rfl⟩ := List.mem_map.mp hr'
    unfold overQ rowQ
    rw [List.length_map, List.length_map, hr row hm, l]
  · obtain ⟨row, hm, rfl⟩ := List.mem_map.mp hr'
    obtain ⟨p, hp2, rfl⟩ := List.mem_map.mp hq
    exact div_nonneg (rowQ_nonneg p hp2) (row_pos (hp row hm))
theorem walkM_sum {M : List (List Nat)} (hp : ∀ row ∈ M, ∃ k ∈ row, 0 < k) : ∀ r ∈ walkM M, Bq.sumQ r = 1 := fun r hr' => by
  obtain ⟨row, hm, rfl⟩ := List.mem_map.mp hr'
  have := row_pos (hp row hm)
  unfold overQ
  rw [sum_over]
  grind
theorem walkM_ed {M : List (List Nat)} (hp : ∀ row ∈ M, ∃ k ∈ row, 0 < k) {a b : Nat} {row : List Nat} {k : Nat} (h1 : M[a]? = some row) (h2 : row[b]? = some k) (h3 : 0 < k) : Ed (walkM M) a b := by
  refine ⟨overQ row, ((k : Nat) : Rat) / Bq.sumQ (rowQ row), ?_, ?_, div_pos (nat_pos h3) (row_pos (hp row (List.mem_of_getElem? h1)))⟩
  · unfold walkM
    rw [List.getElem?_map, h1]
    rfl
  · unfold overQ rowQ
    rw [List.getElem?_map, List.getElem?_map, h2]
    rfl
theorem walkM_sz {M : List (List Nat)} {n : Nat} (h6 : n ≤ 6) (hr : ∀ row ∈ M, row.length = n) (hk : ∀ row ∈ M, ∀ k ∈ row, k < 2 ^ 20) (hp : ∀ row ∈ M, ∃ k ∈ row, 0 < k) : ∀ r ∈ walkM M, ∀ q ∈ r, Bq.Sz 160 q := fun r hr' q hq => by
  obtain ⟨row, hm, rfl⟩ := List.mem_map.mp hr'
  obtain ⟨p, hp2, rfl⟩ := List.mem_map.mp hq
  obtain ⟨k, hk2, rfl⟩ := List.mem_map.mp hp2
  have s1 : ∀ q ∈ rowQ row, Bq.Sz 20 q := fun q hq => by
    obtain ⟨k, hk3, rfl⟩ := List.mem_map.mp hq
    exact nat_sz (hk row hm k hk3) (by omega)
  have s2 : ∀ (qs : List Rat), (∀ q ∈ qs, Bq.Sz 20 q) → Bq.Sz (1 + qs.length * 21) (Bq.sumQ qs) := fun qs => by
    induction qs with
    | nil => exact fun _ => Bq.Sz.zero
    | cons q r ih =>
      intro h
      have h1 := (h q List.mem_cons_self).add (ih fun x hx => h x (List.mem_cons_of_mem _ hx))
      rw [Bq.sumQ]
      refine h1.mono ?_
      rw [List.length_cons, Nat.succ_mul]
      omega
  have h3 := (nat_sz (hk row hm k hk2) (by omega)).div (s2 _ s1) (Bq.num_pos.mpr (row_pos (hp row hm)))
  refine h3.mono ?_
  have hl : (rowQ row).length = n := by
    unfold rowQ
    rw [List.length_map, hr row hm]
  rw [hl]
  have : n * 21 ≤ 6 * 21 := Nat.mul_le_mul_right _ h6
  omega
end Bw
/-! Part 12. A tuple turned round; a tuple once. -/
namespace Bw
open PySem PySem.Spec PyProof.Rows L2
section
variable {prog : Program} {w : World} {A : Around} {E : Value → Shared → Prop} {s : Shared}
theorem slice_back {sl : Addr} {u : Tok} {n : Nat} {Q : Int × Int × Nat → Shared → Prop} (hs : s.heap.IsSliceOf sl .none .none (.int (-1) u)) (h : Q ((n : Int) - 1, -1, n) s) :
    wpAny (model prog w) A (Builtin.Slice.sliceApplied (.ref sl) (pure (n : Int))) Q E s := by
  obtain ⟨os, hos, hcs, hds⟩ := id hs
  unfold Builtin.Slice.sliceApplied Builtin.Slice.sliceFields
  refine wpAny_bind (wpAny_bind (wpAny_field hos hds (x := .none) rfl (wpAny_bind (wpAny_field hos hds (x := .none) rfl (wpAny_bind (wpAny_field hos hds (x := .int (-1) u) rfl (wpAny_pure ?_)))))))
  refine wpAny_bind (HT.slicePart_ (.int (-1) u) ?_)
  show wpAny _ _ (if ((-1 : Int) == 0) = true then _ else _) _ _ s
  rw [if_neg (by decide)]
  refine wpAny_bind (HT.slicePart_ .none (wpAny_bind (HT.slicePart_ .none (wpAny_bind (wpAny_pure ?_)))))
  show wpAny _ _ (match Builtin.Slice.sliceAdjust none none (-1) (n : Int) with | (lo, hi) => pure (lo, (-1 : Int), Builtin.Slice.slicePlaces lo hi (-1))) _ _ s
  have e1 : Builtin.Slice.sliceAdjust none none (-1) (n : Int) = ((n : Int) - 1, -1) := by
    unfold Builtin.Slice.sliceAdjust
    simp
  rw [e1]
  have e2 : Builtin.Slice.slicePlaces ((n : Int) - 1) (-1) (-1) = n := by
    unfold Builtin.Slice.slicePlaces
    rw [if_neg (by omega)]
    split
    · simp
    · simp
      omega
  dsimp only
  rw [e2]
  exact wpAny_pure h
theorem back_pick (xs : Array Value) : ((List.range xs.size).filterMap fun (m : Nat) => xs[(((xs.size : Nat) : Int) - 1 + (m : Int) * (-1)).toNat]?).toArray = xs.toList.reverse.toArray := by
  congr 1
  have e : (fun (m : Nat) => xs[(((xs.size : Nat) : Int) - 1 + (m : Int) * (-1)).toNat]?) = fun m => xs.toList[xs.size - 1 - m]? := by
    funext m
    rw [Array.getElem?_toList]
    congr 1
    omega
  rw [e]
  have key : ∀ (l : List Value) (k : Nat), k ≤ l.length → (List.range k).filterMap (fun m => l[l.length - 1 - m]?) = (l.drop (l.length - k)).reverse := fun l k => by
    induction k with
    | zero => intro _; simp
    | succ k ih =>
      intro h
      rw [List.range_succ, List.filterMap_append, ih (by omega)]
      have h2 : l.length - (k + 1) < l.length := by omega
      have h3 : l.drop (l.length - (k + 1)) = l[l.length - (k + 1)] :: l.drop (l.length - k) := by
        rw [List.drop_eq_getElem_cons h2]
        congr 2
        omega
      rw [h3, List.reverse_cons]
      have h4 : l.length - 1 - k = l.length - (k + 1) := by omega
      have h5 : List.filterMap (fun m => l[l.length - 1 - m]?) [k] = [l[l.length - (k + 1)]] := by
        rw [List.filterMap_cons, h4, List.getElem?_eq_getElem h2]
        rfl
      rw [h5]
  have := key xs.toList xs.size (by simp)
  rw [Array.length_toList] at this
  rw [this]
  simp
theorem item_back {t sl : Addr} {items : Array Value} {u : Tok} {Q : Value → Shared → Prop} (ht : IsTup s.heap t items) (hs : s.heap.IsSliceOf sl .none .none (.int (-1) u))
    (h : Q (.ref s.heap.objs.size) { s with heap := s.heap.push { cls := .type "tuple", data := .seq items.toList.reverse.toArray } }) (hz : items.size ≤ sizeLine) :
    wpAny (model prog w) A (getItem (.ref t) (.ref sl)) Q E s := by
  have hlen : sizeOk (.seq items.toList.reverse.toArray) := by
    show items.toList.reverse.toArray.size ≤ sizeLine
    rw [List.size_toArray, List.length_reverse, Array.length_toList]
    exact hz
  obtain ⟨os, hos, hcs, hds⟩ := id hs
  have hTs : s.TypeIs (.ref sl) "slice" := ⟨os, hos, hcs⟩
  unfold getItem
  try with_reducible refine wpAny_holding ?_
  first | refine wpAny_bind (wpAny_pure ?_) | skip
  refine wpAny_bind (wpAny_sequenceKey ht.typeIs (by decide) ?_)
  refine wpAny_bind (wpAny_callSpecial?_slot (name := Str.ofString "__getitem__") ht.typeIs PyProof.Rows.slot_tuple_getitem (wpAny_call_entry PyProof.Rows.slot_tuple_getitem ht.typeIs PyProof.Rows.entry_tuple_getitem ?_ (PyProof.Rows.args_tuple_getitem _ _)))
  show wpAny _ _ (Builtin.Tuple.tupleItemsOf (.ref t) >>= _) _ _ s
  refine wpAny_bind (PyProof.Rows.tupleItemsOf_ ht (wpAny_bind (wpAny_typeOf hTs ?_)))
  rw [if_pos (by decide)]
  refine wpAny_bind (slice_back hs ?_)
  have hno : ¬ ((((items.size : Nat) : Int) - 1 == 0 && (-1 : Int) == 1 && items.size == items.size) = true) := by simp
  show wpAny _ _ (if (((items.size : Nat) : Int) - 1 == 0 && (-1 : Int) == 1 && items.size == items.size) = true then _ else _) _ _ s
  rw [if_neg hno, back_pick]
  first
    | exact wpAny_bind (m := Builtin.Tuple.tupleExact _) (wpAny_newObj_type (wpAny_pure ⟨_, rfl, wpAny_pure h⟩) hlen)
    | exact wpAny_bind (m := Builtin.Tuple.tupleExact _) (wpAny_newObj_type (wpAny_bind (wpAny_pure (wpAny_pure ⟨_, rfl, wpAny_pure h⟩))) hlen)
    | exact wpAny_bind (wpAny_bind (m := Builtin.Tuple.tupleExact _) (wpAny_newObj_type (wpAny_pure (wpAny_pure ⟨_, rfl, wpAny_pure h⟩)) hlen))
    | exact wpAny_bind (wpAny_bind (m := Builtin.Tuple.tupleExact _) (wpAny_newObj_type (wpAny_pure ⟨_, rfl, wpAny_pure h⟩) hlen))
end

/-- t[::-1], t a tuple -/
def tRevT (K : PySem.W.Frag) (te : TE) : TE := fun σ H Q => te σ H fun x H1 => ∃ a xs, x = .ref a ∧ SqT K H1 a xs ∧ ∀ p, H1 p = none → Q (.ref p) (upd H1 p (.tup xs.reverse))
section
variable {X : Cx}
theorem pe_revT {e : Expr} {te : TE} {k : Nat} {p1 p2 p3 pos : Pos} (he : PE X e te) : PE X (.Subscript e (.Slice none none (some (.UnaryOp .USub (.Constant (.int 1) k p1) p2)) p3) pos) (tRevT X.K te) := by
  refine ⟨fun pins s σ H Q I h => ?_⟩
  refine Subscript_ (thn (he.run pins s σ H _ I h) fun v s1 ⟨x, H1, I1, r1, q1⟩ => ?_)
  obtain ⟨a, xs, ex, hx, q⟩ := q1
  subst ex
  obtain rfl : v = Value.ref a := r1
  have hst : PO X (some (.UnaryOp .USub (.Constant (.int 1) k p1) p2)) (tPart (tUn (rU fun i => .int (-i)) (tC (.int 1)))) := po_some (pe_un un_neg pe_int)
  refine wpAny_Slice (thn (po_none.run pins s1 σ H1 (fun o H2 => o = none ∧ H2 = H1) I1 ⟨rfl, rfl⟩) fun vl s2 ⟨lo, H2, I2, pl, el, e2⟩ => ?_)
  subst el e2
  refine thn (po_none.run pins s2 σ H2 (fun o H3 => o = none ∧ H3 = H2) I2 ⟨rfl, rfl⟩) fun vu s3 ⟨hi, H3, I3, pu, eu, e3⟩ => ?_
  subst eu e3
  refine thn (hst.run pins s3 σ H3 (fun o H4 => o = some (-1) ∧ H4 = H3) I3 ⟨1, rfl, -1, rfl, rfl, rfl⟩) fun vs s4 ⟨o, H4, I4, ps, eo, e4⟩ => ?_
  subst eo e4
  cases pl
  cases pu
  obtain ⟨u, rfl⟩ : ∃ u, vs = Value.int (-1) u := by
    cases ps
    exact ⟨_, rfl⟩
  have I5 : Inv X pins σ H4 { s4 with heap := s4.heap.push { cls := .type "slice", data := .fields #[.none, .none, .int (-1) u] } } := I4.kept (t' := s4.toks) fun b ob q => Heap.get?_push_of_some _ q
  obtain ⟨its, r, ht, hz⟩ := I5.tuple hx
  have hlen := r.length
  show wpAny (model X.prog X.w) X.A (subscriptTail e (.Slice none none (some (.UnaryOp .USub (.Constant (.int 1) k p1) p2)) p3) (.ref a) (.ref s4.heap.objs.size)) (EP X pins σ Q) X.xe { s4 with heap := s4.heap.push { cls := .type "slice", data := .fields #[.none, .none, .int (-1) u] } }
  refine tail_any (ops := [.ref a, .ref s4.heap.objs.size]) ht.typeIs PyProof.Rows.slot_tuple_getitem.lookup ?_ (by with_unfolding_all rfl)
  refine item_back ht (Heap.IsSliceOf.new _ .none .none (.int (-1) u)) ?_ (by rw [List.size_toArray]; omega)
  refine ⟨.ref _, _, I5.laid (t' := s4.toks) (o := .tup xs.reverse) (fun b ob q => Heap.get?_push_of_some _ q) (Nat.le_refl _) ?_, rfl, q _ (I5.hok.fresh (Nat.le_refl _))⟩
  exact ⟨by rw [List.length_reverse]; exact hz, _, r.reverse, IsTup.new _ _⟩

/-! ### t * k, k from 1 on -/
theorem mul_once (l : Addr) (items : Array Value) (n : Nat) (sl : Array (Option Value)) (dd : Option Addr) (u : Tok) :
    Meets (Builtin.«tuple.__mul__» ⟨[.ref l, .int 1 u], []⟩) (fun _ R s => s.heap.get? l = some { cls := .type "tuple", dict := dd, data := .seq items n, slots := sl } ∧ R (.ok (.ret (.ref l))) s) :=
  .of_wp fun prog w A R s h => by
    obtain ⟨hp, g, d, tk, os⟩ := s
    obtain ⟨hl, h⟩ := h
    have f1 := AutoSeq1.idx_int
    wp_walk using wpAny_loadPart' hl
    exact ⟨_, rfl, h⟩
def rRepA (K : PySem.W.Frag) : R2 := fun x y H Q => ∃ l k xs, x = .ref l ∧ y = .int k ∧ SqT K H l xs ∧ xs ≠ [] ∧ 1 ≤ k ∧ k ≤ 1000 ∧ xs.length ≤ 1000 ∧ (k = 1 → Q (.ref l) H) ∧ (2 ≤ k → ∀ p, H p = none → Q (.ref p) (upd H p (.tup (List.replicate k.toNat xs).flatten)))
theorem op_repA : OpR X (binaryOp .Mult) (rRepA X.K) := by
  intro pins s σ H x y v u Q I rx ry h
  obtain ⟨l, k, xs, rfl, rfl, hT, hne, h1, h2, hz, q1, q2⟩ := h
  by_cases hk : k = 1
  · subst hk
    obtain rfl : v = Value.ref l := rx
    obtain ⟨t, rfl⟩ := ry
    obtain ⟨its, r, ⟨⟨cls, dd, data, sl⟩, ho, hc, n, hd⟩, hs⟩ := I.tuple hT
    simp only at hc hd
    subst hc hd
    exact wpAny_binaryOp_repeat_ref (T := "tuple") (U := "int") (by decide) ⟨_, ho, rfl⟩ (fun s' => typeIs_int s' 1 t) noFill_tuple_mul F.fills_int_mul F.slot_int_rmul repeat_tuple F.slot_int_index.lookup
      (call_meets F.slot_int_rmul (typeIs_int s 1 t) F.entry_int_rmul (F.args_int_rmul_2 _ _) (int_rmul_tuple 1 t l its.toArray n dd sl)
        ⟨ho, rfl, ⟨_, ho, rfl⟩, call_meets F.slot_tuple_mul ⟨_, ho, rfl⟩ F.entry_tuple_mul (F.args_tuple_mul_2 _ _) (mul_once l its.toArray n sl dd t) ⟨ho, ⟨.ref l, H, I, rfl, q1 rfl⟩⟩⟩)
  · exact op_repT pins s σ H _ _ v u Q I rx ry ⟨l, k, xs, rfl, rfl, hT, hne, by omega, h2, hz, q2 (by omega)⟩
theorem op_repAK {K : PySem.W.Frag} (h : X.K = K) : OpR X (binaryOp .Mult) (rRepA K) := by
  subst h
  exact op_repA
end
end Bw
/-! Part 12. Places left out one by one from a square of whole numbers; the shares that come of it. Plain mathematics. -/
namespace Bw
/-- f 0 + .. + f (n - 1) -/
def sN : Nat → (Nat → Nat) → Nat
  | 0, _ => 0
  | n + 1, f => sN n f + f n
theorem sN_congr {f g : Nat → Nat} : ∀ {n : Nat}, (∀ i, i < n → f i = g i) → sN n f = sN n g
  | 0, _ => rfl
  | n + 1, h => by
    rw [sN, sN, sN_congr fun i hi => h i (by omega), h n (by omega)]
theorem sN_lin (f h : Nat → Nat) (g c : Nat) : ∀ n, sN n (fun j => f j * g + c * h j) = sN n f * g + c * sN n h
  | 0 => by simp [sN]
  | n + 1 => by
    simp only [sN]
    rw [sN_lin f h g c n, Nat.add_mul, Nat.mul_add]
    omega
theorem sN_mul (f : Nat → Nat) (g : Nat) : ∀ n, sN n (fun j => f j * g) = sN n f * g
  | 0 => by simp [sN]
  | n + 1 => by
    simp only [sN]
    rw [sN_mul f g n, Nat.add_mul]
theorem sN_add (f h : Nat → Nat) : ∀ n, sN n (fun j => f j + h j) = sN n f + sN n h
  | 0 => by simp [sN]
  | n + 1 => by
    simp only [sN]
    rw [sN_add f h n]
    omega
theorem sN_pos {f : Nat → Nat} : ∀ {n i : Nat}, i < n → 0 < f i → 0 < sN n f
  | 0, i, h, _ => by omega
  | n + 1, i, h, h0 => by
    rw [sN]
    by_cases c : i = n
    · subst c
      omega
    · have := sN_pos (f := f) (n := n) (by omega) h0
      omega
theorem sN_lt {f : Nat → Nat} {b : Nat} : ∀ {n : Nat}, (∀ i, i < n → f i < b) → 0 < b → sN n f ≤ n * b
  | 0, _, _ => by simp [sN]
  | n + 1, h, h0 => by
    rw [sN, Nat.succ_mul]
    have h1 := sN_lt (f := f) (n := n) (fun i hi => h i (by omega)) h0
    have h2 := h n (by omega)
    omega
/-- a step from x to y, k places -/
def EdN (k : Nat) (M : Nat → Nat → Nat) (x y : Nat) : Prop := x < k ∧ y < k ∧ 0 < M x y
def StrN (k : Nat) (M : Nat → Nat → Nat) : Prop := ∀ a b, a < k → b < k → Reach (EdN k M) a b
theorem reach_first {E : Nat → Nat → Prop} {a b : Nat} (h : Reach E a b) (ne : a ≠ b) : ∃ c, c ≠ a ∧ E a c := by
  induction h with
  | refl => exact absurd rfl ne
  | step h e ih =>
    rename_i b c
    by_cases z : a = b
    · subst z
      exact ⟨c, Ne.symm ne, e⟩
    · exact ih z
theorem reach_last {E : Nat → Nat → Prop} {a b : Nat} (h : Reach E a b) (ne : a ≠ b) : ∃ c, c ≠ b ∧ E c b := by
  induction h with
  | refl => exact absurd rfl ne
  | step h e ih =>
    rename_i x c
    by_cases z : x = c
    · subst z
      exact ih ne
    · exact ⟨x, z, e⟩
/-- what goes out of the last place, l, to those ahead -/
abbrev gN (M : Nat → Nat → Nat) (l : Nat) : Nat := sN l (M l)
/-- the last place, l, left out -/
def el (M : Nat → Nat → Nat) (l : Nat) : Nat → Nat → Nat := fun i j => M i j * gN M l + M i l * M l j
theorem g_pos {M : Nat → Nat → Nat} {l : Nat} (h : StrN (l + 1) M) (hl : 1 ≤ l) : 0 < gN M l := by
  obtain ⟨c, hc, _, c2, c3⟩ := reach_first (h l 0 (by omega) (by omega)) (by omega)
  exact sN_pos (i := c) (by omega) c3
theorem in_pos {M : Nat → Nat → Nat} {l : Nat} (h : StrN (l + 1) M) (hl : 1 ≤ l) : ∃ i, i < l ∧ 0 < M i l := by
  obtain ⟨c, hc, c1, _, c3⟩ := reach_last (h 0 l (by omega) (by omega)) (by omega)
  exact ⟨c, by omega, c3⟩
theorem out_pos {M : Nat → Nat → Nat} {k i : Nat} (h : StrN k M) (hk : 2 ≤ k) (hi : i < k) : 0 < sN k (M i) := by
  by_cases z : i = 0
  · obtain ⟨c, hc, _, c2, c3⟩ := reach_first (h i 1 hi (by omega)) (by omega)
    exact sN_pos c2 c3
  · obtain ⟨c, hc, _, c2, c3⟩ := reach_first (h i 0 hi (by omega)) (by omega)
    exact sN_pos c2 c3
theorem el_str {M : Nat → Nat → Nat} {l : Nat} (h : StrN (l + 1) M) (hl : 1 ≤ l) : StrN l (el M l) := by
  have g0 := g_pos h hl
  have big : ∀ {x y}, 0 < M x y → 0 < el M l x y := fun {x y} z => by
    have := Nat.mul_pos z g0
    unfold el
    omega
  have via : ∀ {x y}, 0 < M x l → 0 < M l y → 0 < el M l x y := fun {x y} z z2 => by
    have := Nat.mul_pos z z2
    unfold el
    omega
  intro a b ha hb
  have key : ∀ y, Reach (EdN (l + 1) M) a y → (y < l → Reach (EdN l (el M l)) a y) ∧ (y = l → ∃ x, x < l ∧ Reach (EdN l (el M l)) a x ∧ 0 < M x l) := fun y r => by
    induction r with
    | refl => exact ⟨fun _ => .refl, fun z => by omega⟩
    | step r e ih =>
      rename_i y z
      obtain ⟨e1, e2, e3⟩ := e
      constructor
      · intro hz
        by_cases hy : y < l
        · exact (ih.1 hy).step ⟨hy, hz, big e3⟩
        · have hy2 : y = l := by omega
          obtain ⟨x, hx, rx, mx⟩ := ih.2 hy2
          rw [hy2] at e3
          exact rx.step ⟨hx, hz, via mx e3⟩
      · intro hz
        by_cases hy : y < l
        · rw [hz] at e3
          exact ⟨y, hy, ih.1 hy, e3⟩
        · exact ih.2 (by omega)
  exact (key b (h a b (by omega) (by omega))).1 hb
theorem el_sum (M : Nat → Nat → Nat) (l i : Nat) : sN l (el M l i) = sN (l + 1) (M i) * gN M l := by
  have h := sN_lin (M i) (M l) (gN M l) (M i l) l
  show sN l (fun j => M i j * gN M l + M i l * M l j) = _
  rw [h, sN, Nat.add_mul]
theorem el_lt {M : Nat → Nat → Nat} {l b : Nat} (hl : l ≤ 5) (h : ∀ i j, i ≤ l → j ≤ l → M i j < 2 ^ b) : ∀ i j, i < l → j < l → el M l i j < 2 ^ (2 * b + 4) := by
  intro i j hi hj
  have p0 : 0 < 2 ^ b := Nat.pow_pos (by omega)
  have hg : gN M l ≤ 5 * 2 ^ b := Nat.le_trans (sN_lt (fun k hk => h l k (by omega) (by omega)) p0) (Nat.mul_le_mul_right _ hl)
  have h1 := h i j (by omega) (by omega)
  have h2 := h i l (by omega) (by omega)
  have h3 := h l j (by omega) (by omega)
  have e : 2 ^ (2 * b + 4) = 16 * (2 ^ b * 2 ^ b) := by
    rw [← Nat.pow_add, Nat.pow_add, Nat.mul_comm, show b + b = 2 * b by omega]
  rw [e]
  have m1 : M i j * gN M l ≤ 2 ^ b * (5 * 2 ^ b) := Nat.mul_le_mul (by omega) hg
  have m2 : M i l * M l j ≤ 2 ^ b * 2 ^ b := Nat.mul_le_mul (by omega) (by omega)
  have m3 : 2 ^ b * (5 * 2 ^ b) = 5 * (2 ^ b * 2 ^ b) := by rw [Nat.mul_left_comm]
  have p2 : 0 < 2 ^ b * 2 ^ b := Nat.mul_pos p0 p0
  unfold el
  omega
/-- numbers by which what comes is what goes -/
def sol : Nat → (Nat → Nat → Nat) → Nat → Nat
  | 0, _ => fun _ => 1
  | 1, _ => fun _ => 1
  | l + 2, M => fun i => if i < l + 1 then sol (l + 1) (el M (l + 1)) i * gN M (l + 1) else sN (l + 1) fun k => sol (l + 1) (el M (l + 1)) k * M k (l + 1)
theorem sol_lt {l i : Nat} {M : Nat → Nat → Nat} (h : 1 ≤ l) (hi : i < l) : sol (l + 1) M i = sol l (el M l) i * gN M l := by
  obtain ⟨k, rfl⟩ : ∃ k, l = k + 1 := ⟨l - 1, by omega⟩
  rw [sol]
  exact if_pos hi
theorem sol_last {l : Nat} {M : Nat → Nat → Nat} (h : 1 ≤ l) : sol (l + 1) M l = sN l fun k => sol l (el M l) k * M k l := by
  obtain ⟨k, rfl⟩ : ∃ k, l = k + 1 := ⟨l - 1, by omega⟩
  rw [sol]
  exact if_neg (by omega)
theorem sol_pos : ∀ {k : Nat} {M : Nat → Nat → Nat}, StrN k M → ∀ i, i < k → 0 < sol k M i
  | 0, _, _, i, h => by omega
  | 1, _, _, i, h => by
    rw [sol]
    exact Nat.one_pos
  | l + 2, M, h, i, hi => by
    have h2 := el_str h (by omega)
    have ih := sol_pos h2
    by_cases c : i < l + 1
    · rw [sol_lt (by omega) c]
      exact Nat.mul_pos (ih i c) (g_pos h (by omega))
    · have e : i = l + 1 := by omega
      subst e
      rw [sol_last (by omega)]
      obtain ⟨x, hx, h3⟩ := in_pos h (by omega)
      exact sN_pos hx (Nat.mul_pos (ih x hx) h3)
/-- what comes to j is what goes from it -/
theorem sol_bal : ∀ {k : Nat} (M : Nat → Nat → Nat), 1 ≤ k → ∀ j, j < k → sN k (fun i => sol k M i * M i j) = sol k M j * sN k (M j)
  | 0, _, h, _, _ => by omega
  | 1, M, _, j, hj => by
    have : j = 0 := by omega
    subst this
    simp [sN, sol]
  | l + 2, M, _, j, hj => by
    have ih := sol_bal (k := l + 1) (el M (l + 1)) (by omega)
    have e0 : sN (l + 1) (fun i => sol (l + 2) M i * M i j) = sN (l + 1) (fun i => sol (l + 1) (el M (l + 1)) i * M i j) * gN M (l + 1) := by
      rw [← sN_mul]
      refine sN_congr fun i hi => ?_
      rw [sol_lt (l := l + 1) (by omega) hi, Nat.mul_right_comm]
    rw [sN, e0, sol_last (l := l + 1) (by omega)]
    by_cases c : j < l + 1
    · have h1 := ih j c
      rw [sol_lt (l := l + 1) (by omega) c, el_sum] at *
      have e1 : sN (l + 1) (fun i => sol (l + 1) (el M (l + 1)) i * el M (l + 1) i j) = sN (l + 1) (fun i => sol (l + 1) (el M (l + 1)) i * M i j) * gN M (l + 1) + sN (l + 1) (fun i => sol (l + 1) (el M (l + 1)) i * M i (l + 1)) * M (l + 1) j := by
        rw [← sN_mul, ← sN_mul, ← sN_add]
        refine sN_congr fun i hi => ?_
        show _ * (M i j * gN M (l + 1) + M i (l + 1) * M (l + 1) j) = _
        rw [Nat.mul_add, Nat.mul_assoc, Nat.mul_assoc]
      rw [← e1, h1]
      rw [Nat.mul_assoc, Nat.mul_comm (gN M (l + 1))]
    · have e : j = l + 1 := by omega
      subst e
      rw [show sN (l + 2) (M (l + 1)) = gN M (l + 1) + M (l + 1) (l + 1) from rfl, Nat.mul_add, sol_last (l := l + 1) (by omega)]
/-- after i places are left out of n -/
def stg (n : Nat) (M : Nat → Nat → Nat) : Nat → Nat → Nat → Nat
  | 0 => M
  | i + 1 => el (stg n M i) (n - 1 - i)
theorem stg_str {n : Nat} {M : Nat → Nat → Nat} (h : StrN n M) : ∀ i, i < n → StrN (n - i) (stg n M i)
  | 0, _ => h
  | i + 1, hi => by
    have ih := stg_str h i (by omega)
    have e : n - i = (n - 1 - i) + 1 := by omega
    rw [e] at ih
    have h2 := el_str ih (by omega)
    have e2 : n - (i + 1) = n - 1 - i := by omega
    rw [e2]
    exact h2
def bitN (b : Nat) : Nat → Nat
  | 0 => b
  | i + 1 => 2 * bitN b i + 4
theorem stg_lt {n b : Nat} {M : Nat → Nat → Nat} (hn : n ≤ 6) (h : ∀ i j, i < n → j < n → M i j < 2 ^ b) : ∀ k, k < n → ∀ i j, i < n - k → j < n - k → stg n M k i j < 2 ^ bitN b k
  | 0, _ => h
  | k + 1, hk => by
    have ih := stg_lt hn h k (by omega)
    intro i j hi hj
    exact el_lt (l := n - 1 - k) (by omega) (fun i j hi hj => ih i j (by omega) (by omega)) i j (by omega) (by omega)
/-- what each place weighs, times one number: the same at each stage -/
def pN (n : Nat) (M : Nat → Nat → Nat) (j : Nat) : Nat := sol n M j * sN n (M j)
theorem pN_el {l : Nat} {M : Nat → Nat → Nat} (h : 1 ≤ l) {j : Nat} (hj : j < l) : pN l (el M l) j = pN (l + 1) M j := by
  unfold pN
  rw [el_sum, sol_lt h hj, Nat.mul_assoc, Nat.mul_comm (gN M l)]
theorem pN_stg {n : Nat} {M : Nat → Nat → Nat} : ∀ i, i < n → ∀ j, j < n - i → pN (n - i) (stg n M i) j = pN n M j
  | 0, _, _, _ => rfl
  | i + 1, hi, j, hj => by
    have ih := pN_stg (n := n) (M := M) i (by omega) j (by omega)
    have e : n - i = (n - 1 - i) + 1 := by omega
    have e2 : n - (i + 1) = n - 1 - i := by omega
    rw [e] at ih
    rw [e2]
    show pN (n - 1 - i) (el (stg n M i) (n - 1 - i)) j = _
    rw [pN_el (by omega) (by omega), ih]
/-! ### as fractions -/
def fQ (k : Nat) : Rat := ((k : Nat) : Rat)
theorem fQ_mul (a b : Nat) : fQ (a * b) = fQ a * fQ b := by
  unfold fQ
  exact Rat.natCast_mul a b
theorem fQ_add (a b : Nat) : fQ (a + b) = fQ a + fQ b := by
  unfold fQ
  exact Rat.natCast_add a b
theorem fQ_pos {a : Nat} (h : 0 < a) : 0 < fQ a := by
  unfold fQ
  exact_mod_cast h
theorem fQ_ne {a : Nat} (h : 0 < a) : fQ a ≠ 0 := by
  have := fQ_pos h
  grind
/-- the sum of a drawn row -/
theorem sumQ_app : ∀ (l m : List Rat), Bq.sumQ (l ++ m) = Bq.sumQ l + Bq.sumQ m
  | [], m => by
    rw [List.nil_append, Bq.sumQ]
    grind
  | a :: l, m => by
    rw [List.cons_append, Bq.sumQ, sumQ_app l m, Bq.sumQ]
    grind
theorem sumQ_div (f : Nat → Nat) (c : Rat) : ∀ n, Bq.sumQ ((List.range n).map fun j => fQ (f j) / c) = fQ (sN n f) / c
  | 0 => by
    simp [Bq.sumQ, sN, fQ]
    grind
  | n + 1 => by
    rw [List.range_succ, List.map_append, sumQ_app, sumQ_div f c n, sN, fQ_add]
    simp only [List.map_cons, List.map_nil, Bq.sumQ]
    grind
/-- the chance from i to j of a stage of k places -/
def chQ (k : Nat) (M : Nat → Nat → Nat) (i j : Nat) : Rat := fQ (M i j) / fQ (sN k (M i))
/-- what is put in the last column when the last place, l, is left out -/
def bkQ (l : Nat) (M : Nat → Nat → Nat) (i : Nat) : Rat := chQ (l + 1) M i l / (fQ (gN M l) / fQ (sN (l + 1) (M l)))
theorem goes_eq (l : Nat) (M : Nat → Nat → Nat) : Bq.sumQ ((List.range l).map fun j => chQ (l + 1) M l j) = fQ (gN M l) / fQ (sN (l + 1) (M l)) := sumQ_div (M l) _ l
theorem step_eq {l i j : Nat} {M : Nat → Nat → Nat} (h : StrN (l + 1) M) (hl : 1 ≤ l) (hi : i < l) : chQ (l + 1) M i j + bkQ l M i * chQ (l + 1) M l j = chQ l (el M l) i j := by
  have g0 := fQ_ne (g_pos h hl)
  have r1 := fQ_ne (out_pos h (by omega) (show i < l + 1 by omega))
  have r2 := fQ_ne (out_pos h (by omega) (show l < l + 1 by omega))
  unfold bkQ chQ
  rw [el_sum]
  unfold el
  rw [fQ_add, fQ_mul, fQ_mul, fQ_mul]
  generalize fQ (gN M l) = g at *
  generalize fQ (sN (l + 1) (M i)) = r at *
  generalize fQ (sN (l + 1) (M l)) = t at *
  generalize fQ (M i j) = a
  generalize fQ (M i l) = b
  generalize fQ (M l j) = c
  grind
theorem found_eq {l : Nat} {M : Nat → Nat → Nat} (h : StrN (l + 1) M) (hl : 1 ≤ l) (c : Rat) : Bq.sumQ ((List.range l).map fun i => fQ (pN (l + 1) M i) / c * bkQ l M i) = fQ (pN (l + 1) M l) / c := by
  have g0 := fQ_ne (g_pos h hl)
  have r2 := fQ_ne (out_pos h (by omega) (show l < l + 1 by omega))
  have e : ∀ i, i < l → fQ (pN (l + 1) M i) / c * bkQ l M i = fQ (sol l (el M l) i * M i l * sN (l + 1) (M l)) / c := fun i hi => by
    have r1 := fQ_ne (out_pos h (by omega) (show i < l + 1 by omega))
    unfold pN bkQ chQ
    rw [sol_lt hl hi]
    simp only [fQ_mul]
    generalize fQ (gN M l) = g at *
    generalize fQ (sN (l + 1) (M i)) = r at *
    generalize fQ (sN (l + 1) (M l)) = t at *
    grind
  have e2 : ((List.range l).map fun i => fQ (pN (l + 1) M i) / c * bkQ l M i) = (List.range l).map fun i => fQ (sol l (el M l) i * M i l * sN (l + 1) (M l)) / c := List.map_congr_left fun i hi => e i (List.mem_range.mp hi)
  rw [e2, sumQ_div (fun i => sol l (el M l) i * M i l * sN (l + 1) (M l)) c l, sN_mul, pN, sol_last hl]
end Bw
set_option exponentiation.threshold 4000
namespace Bw
/-! ### rows drawn, as a square -/
def mf (M : List (List Nat)) (i j : Nat) : Nat := (M.getD i []).getD j 0
theorem row_range {row : List Nat} {n : Nat} (h : row.length = n) : row = (List.range n).map fun j => row.getD j 0 := by
  refine List.ext_getElem (by simp [h]) fun i h1 h2 => ?_
  rw [List.getElem_map, List.getElem_range, List.getD_eq_getElem?_getD, List.getElem?_eq_getElem h1]
  rfl
theorem sumQ_fQ (f : Nat → Nat) : ∀ n, Bq.sumQ ((List.range n).map fun j => fQ (f j)) = fQ (sN n f) := fun n => by
  have h := sumQ_div f 1 n
  have e : ((List.range n).map fun j => fQ (f j) / 1) = (List.range n).map fun j => fQ (f j) := List.map_congr_left fun i _ => by grind
  rw [e] at h
  rw [h]
  grind
theorem overQ_eq {row : List Nat} {n : Nat} (h : row.length = n) : overQ row = (List.range n).map fun j => fQ (row.getD j 0) / fQ (sN n fun j => row.getD j 0) := by
  have e : rowQ row = (List.range n).map fun j => fQ (row.getD j 0) := by
    have e1 := congrArg (List.map fun k => ((k : Nat) : Rat)) (row_range h)
    rw [List.map_map] at e1
    exact e1
  unfold overQ
  rw [e, List.map_map, sumQ_fQ]
  rfl
/-- a walk drawn from a square of numbers -/
structure Wk (n : Nat) (M : List (List Nat)) : Prop where
  n1 : 1 ≤ n
  n6 : n ≤ 6
  l : M.length = n
  r : ∀ row ∈ M, row.length = n
  k : ∀ i j, i < n → j < n → mf M i j < 2 ^ 20
  st : StrN n (mf M)
  p : ∀ i, i < n → 0 < sN n (mf M i)
theorem mf_row {M : List (List Nat)} {i : Nat} {row : List Nat} (h : M[i]? = some row) : mf M i = fun j => row.getD j 0 := by
  funext j
  have e : M.getD i [] = row := by
    rw [List.getD_eq_getElem?_getD, h]
    rfl
  show (M.getD i []).getD j 0 = _
  rw [e]
theorem Wk.at {n : Nat} {M : List (List Nat)} (h : Wk n M) {i : Nat} (hi : i < n) : ∃ row, M[i]? = some row ∧ row.length = n := by
  have hl := h.l
  have e : M[i]? = some (M[i]'(by omega)) := List.getElem?_eq_getElem (by omega)
  exact ⟨_, e, h.r _ (List.mem_of_getElem? e)⟩
theorem Wk.row {n : Nat} {M : List (List Nat)} (h : Wk n M) {i : Nat} (hi : i < n) : (walkM M)[i]? = some ((List.range n).map fun j => chQ n (mf M) i j) := by
  obtain ⟨row, e, hl⟩ := h.at hi
  unfold walkM
  rw [List.getElem?_map, e]
  show some (overQ row) = _
  rw [overQ_eq hl]
  unfold chQ
  rw [mf_row e]
theorem Wk.len {n : Nat} {M : List (List Nat)} (h : Wk n M) : (walkM M).length = n := by
  unfold walkM
  rw [List.length_map, h.l]
/-! ### sizes -/
theorem fQ_over {a b : Nat} : fQ a / fQ b = Rat.divInt a b := by
  unfold fQ
  rw [Rat.divInt_eq_div]
  rfl
theorem fQ_sz {a b n : Nat} (ha : a < 2 ^ n) (hb : b < 2 ^ n) (h : 0 < b) : Bq.Sz n (fQ a / fQ b) := by
  rw [fQ_over]
  exact Bq.sz_div (by omega) (by simpa using ha) (by simpa using hb)
theorem pow_le {m n : Nat} (h : m ≤ n) : 2 ^ m ≤ 2 ^ n := Nat.pow_le_pow_right (by decide) h
theorem sN_bits {f : Nat → Nat} {n b : Nat} (hn : n ≤ 6) (h : ∀ i, i < n → f i < 2 ^ b) : sN n f < 2 ^ (b + 3) := by
  have p0 : 0 < 2 ^ b := Nat.pow_pos (by omega)
  have h1 := sN_lt h p0
  have h2 : n * 2 ^ b ≤ 6 * 2 ^ b := Nat.mul_le_mul_right _ hn
  have e : 2 ^ (b + 3) = 2 ^ b * 8 := by rw [Nat.pow_add]
  rw [e]
  omega
theorem bit_le {n k : Nat} (hn : n ≤ 6) (hk : k + 2 ≤ n) : bitN 20 k ≤ 380 := by
  match k, hk with
  | 0, _ => decide
  | 1, _ => decide
  | 2, _ => decide
  | 3, _ => decide
  | 4, _ => decide
  | k + 5, h => omega
theorem mul_bits {a b m n : Nat} (ha : a < 2 ^ m) (hb : b < 2 ^ n) : a * b < 2 ^ (m + n) := by
  rw [Nat.pow_add]
  exact Nat.mul_lt_mul'' ha hb
/-- the bits of the numbers by which what comes is what goes -/
def solB : Nat → Nat → Nat
  | 0, _ => 1
  | 1, _ => 1
  | l + 2, b => solB (l + 1) (2 * b + 4) + b + 3
theorem sol_lt2 : ∀ {k : Nat} {M : Nat → Nat → Nat} {b : Nat}, k ≤ 6 → (∀ i j, i < k → j < k → M i j < 2 ^ b) → ∀ i, sol k M i < 2 ^ solB k b
  | 0, _, _, _, _, _ => by simp [sol, solB]
  | 1, _, _, _, _, _ => by simp [sol, solB]
  | l + 2, M, b, hk, h, i => by
    have ih := sol_lt2 (k := l + 1) (M := el M (l + 1)) (b := 2 * b + 4) (by omega) (el_lt (by omega) fun i j hi hj => h i j (by omega) (by omega))
    have hg : gN M (l + 1) < 2 ^ (b + 3) := sN_bits (by omega) fun j hj => h _ _ (by omega) (by omega)
    rw [sol, solB]
    show (if i < l + 1 then _ else _) < _
    split
    · rw [Nat.add_assoc]
      exact mul_bits (ih i) hg
    · rw [show solB (l + 1) (2 * b + 4) + b + 3 = (solB (l + 1) (2 * b + 4) + b) + 3 by omega]
      exact sN_bits (by omega) fun k hk => mul_bits (ih k) (h _ _ (by omega) (by omega))
theorem solB_le {n : Nat} (hn : n ≤ 6) : solB n 20 ≤ 740 := by
  match n, hn with
  | 0, _ => decide
  | 1, _ => decide
  | 2, _ => decide
  | 3, _ => decide
  | 4, _ => decide
  | 5, _ => decide
  | 6, _ => decide
  | n + 7, h => omega
theorem Wk.sol_lt {n : Nat} {M : List (List Nat)} (h : Wk n M) (i : Nat) : sol n (mf M) i < 2 ^ 740 := Nat.lt_of_lt_of_le (sol_lt2 h.n6 h.k i) (pow_le (solB_le h.n6))
theorem Wk.rs_lt {n : Nat} {M : List (List Nat)} (h : Wk n M) {i : Nat} (hi : i < n) : sN n (mf M i) < 2 ^ 23 := sN_bits h.n6 fun j hj => h.k i j hi hj
theorem Wk.pN_lt {n : Nat} {M : List (List Nat)} (h : Wk n M) {i : Nat} (hi : i < n) : pN n (mf M) i < 2 ^ 763 := by
  rw [show 763 = 740 + 23 from rfl]
  exact mul_bits (h.sol_lt i) (h.rs_lt hi)
theorem Wk.pN_pos {n : Nat} {M : List (List Nat)} (h : Wk n M) {i : Nat} (hi : i < n) : 0 < pN n (mf M) i := Nat.mul_pos (sol_pos h.st i hi) (h.p i hi)
def allN (n : Nat) (M : List (List Nat)) : Nat := sN n (pN n (mf M))
theorem Wk.all_lt {n : Nat} {M : List (List Nat)} (h : Wk n M) : allN n M < 2 ^ 766 := by
  rw [show 766 = 763 + 3 from rfl]
  exact sN_bits h.n6 fun i hi => h.pN_lt hi
theorem Wk.all_pos {n : Nat} {M : List (List Nat)} (h : Wk n M) : 0 < allN n M := sN_pos (i := 0) (by have := h.n1; omega) (h.pN_pos (by have := h.n1; omega))
/-- the shares -/
def shQ (n : Nat) (M : List (List Nat)) (i : Nat) : Rat := fQ (pN n (mf M) i) / fQ (allN n M)
theorem Wk.ch_sz {n : Nat} {M : List (List Nat)} (h : Wk n M) {t : Nat} (ht : t + 2 ≤ n) {i j : Nat} (hi : i < n - t) (hj : j < n - t) : Bq.Sz 383 (chQ (n - t) (stg n (mf M) t) i j) := by
  have hb := bit_le h.n6 ht
  have n6 := h.n6
  have lt := stg_lt h.n6 h.k t (by omega)
  refine fQ_sz (Nat.lt_of_lt_of_le (lt i j hi hj) (pow_le (by omega))) (Nat.lt_of_lt_of_le (sN_bits (b := bitN 20 t) (by omega) fun j hj => lt i j hi hj) (pow_le (by omega))) (out_pos (stg_str h.st t (by omega)) (by omega) hi)
theorem bkQ_eq {l : Nat} {M : Nat → Nat → Nat} (h : StrN (l + 1) M) (hl : 1 ≤ l) {i : Nat} (hi : i < l) : bkQ l M i = fQ (M i l * sN (l + 1) (M l)) / fQ (sN (l + 1) (M i) * gN M l) := by
  have g0 := fQ_ne (g_pos h hl)
  have r1 := fQ_ne (out_pos h (by omega) (show i < l + 1 by omega))
  have r2 := fQ_ne (out_pos h (by omega) (show l < l + 1 by omega))
  unfold bkQ chQ
  rw [fQ_mul, fQ_mul]
  generalize fQ (gN M l) = g at *
  generalize fQ (sN (l + 1) (M i)) = r at *
  generalize fQ (sN (l + 1) (M l)) = t at *
  grind
theorem Wk.bk_sz {n : Nat} {M : List (List Nat)} (h : Wk n M) {l : Nat} (hl : 1 ≤ l) (hn : l < n) {i : Nat} (hi : i < l) : Bq.Sz 770 (bkQ l (stg n (mf M) (n - 1 - l)) i) := by
  have hb := bit_le (k := n - 1 - l) h.n6 (by omega)
  have n6 := h.n6
  have lt := stg_lt h.n6 h.k (n - 1 - l) (by omega)
  have st := stg_str h.st (n - 1 - l) (by omega)
  have e : n - (n - 1 - l) = l + 1 := by omega
  rw [e] at st lt
  rw [bkQ_eq st hl hi]
  generalize bitN 20 (n - 1 - l) = b at *
  have g0 := g_pos st hl
  have r1 := out_pos st (by omega) (show i < l + 1 by omega)
  have s1 := sN_bits (n := l + 1) (f := stg n (mf M) (n - 1 - l) l) (b := b) (by omega) fun j hj => lt _ _ (by omega) hj
  have s2 := sN_bits (n := l + 1) (f := stg n (mf M) (n - 1 - l) i) (b := b) (by omega) fun j hj => lt _ _ (by omega) hj
  have s3 := sN_bits (n := l) (f := stg n (mf M) (n - 1 - l) l) (b := b) (by omega) fun j hj => lt _ _ (by omega) (by omega)
  refine fQ_sz (Nat.lt_of_lt_of_le (mul_bits (lt i l (by omega) (by omega)) s1) (pow_le (by omega))) (Nat.lt_of_lt_of_le (mul_bits s2 s3) (pow_le (by omega))) (Nat.mul_pos r1 g0)
theorem Wk.found_sz {n : Nat} {M : List (List Nat)} (h : Wk n M) {i : Nat} (hi : i < n) : Bq.Sz 770 (fQ (pN n (mf M) i) / fQ (pN n (mf M) 0)) :=
  fQ_sz (Nat.lt_of_lt_of_le (h.pN_lt hi) (pow_le (by omega))) (Nat.lt_of_lt_of_le (h.pN_lt (by have := h.n1; omega)) (pow_le (by omega))) (h.pN_pos (by have := h.n1; omega))
theorem Wk.sh_sz {n : Nat} {M : List (List Nat)} (h : Wk n M) {i : Nat} (hi : i < n) : Bq.Sz 770 (shQ n M i) :=
  fQ_sz (Nat.lt_of_lt_of_le (h.pN_lt hi) (pow_le (by omega))) (Nat.lt_of_lt_of_le h.all_lt (pow_le (by omega))) h.all_pos
theorem Wk.sh_pos {n : Nat} {M : List (List Nat)} (h : Wk n M) {i : Nat} (hi : i < n) : 0 < shQ n M i := by
  unfold shQ
  rw [Rat.div_def]
  exact Rat.mul_pos (fQ_pos (h.pN_pos hi)) (Rat.inv_pos.mpr (fQ_pos h.all_pos))
/-! ### flows, the walk backwards -/
def flN (n : Nat) (M : List (List Nat)) (i j : Nat) : Nat := sol n (mf M) i * mf M i j
theorem Wk.fl_eq {n : Nat} {M : List (List Nat)} (h : Wk n M) {i : Nat} (hi : i < n) (j : Nat) : shQ n M i * chQ n (mf M) i j = fQ (flN n M i j) / fQ (allN n M) := by
  have r := fQ_ne (h.p i hi)
  unfold shQ chQ pN flN
  rw [fQ_mul, fQ_mul]
  generalize fQ (sN n (mf M i)) = a at *
  grind
theorem Wk.fl_lt {n : Nat} {M : List (List Nat)} (h : Wk n M) {i j : Nat} (hi : i < n) (hj : j < n) : flN n M i j < 2 ^ 760 := by
  rw [show 760 = 740 + 20 from rfl]
  exact mul_bits (h.sol_lt i) (h.k i j hi hj)
theorem Wk.fl_sz {n : Nat} {M : List (List Nat)} (h : Wk n M) {i j : Nat} (hi : i < n) (hj : j < n) : Bq.Sz 770 (fQ (flN n M i j) / fQ (allN n M)) :=
  fQ_sz (Nat.lt_of_lt_of_le (h.fl_lt hi hj) (pow_le (by omega))) (Nat.lt_of_lt_of_le h.all_lt (pow_le (by omega))) h.all_pos
/-- the square of the walk backwards -/
def bkM (n : Nat) (M : List (List Nat)) : List (List Nat) := (List.range n).map fun i => (List.range n).map fun j => flN n M j i
theorem bkM_at {n : Nat} {M : List (List Nat)} {i j : Nat} (hi : i < n) (hj : j < n) : mf (bkM n M) i j = flN n M j i := by
  have e : (bkM n M)[i]? = some ((List.range n).map fun j => flN n M j i) := by
    unfold bkM
    rw [List.getElem?_map, List.getElem?_range hi]
    rfl
  rw [mf_row e]
  show ((List.range n).map fun j => flN n M j i).getD j 0 = _
  rw [List.getD_eq_getElem?_getD, List.getElem?_map, List.getElem?_range hj]
  rfl
theorem Wk.bk_sum {n : Nat} {M : List (List Nat)} (h : Wk n M) {i : Nat} (hi : i < n) : sN n (mf (bkM n M) i) = pN n (mf M) i := by
  have e : sN n (mf (bkM n M) i) = sN n fun j => flN n M j i := sN_congr fun j hj => bkM_at hi hj
  rw [e]
  exact sol_bal (mf M) h.n1 i hi
theorem Wk.bk_ch {n : Nat} {M : List (List Nat)} (h : Wk n M) {i j : Nat} (hi : i < n) (hj : j < n) : chQ n (mf (bkM n M)) i j = fQ (flN n M j i) / fQ (pN n (mf M) i) := by
  unfold chQ
  rw [bkM_at hi hj, h.bk_sum hi]
theorem Wk.bk_row {n : Nat} {M : List (List Nat)} (h : Wk n M) {i : Nat} (hi : i < n) : (walkM (bkM n M))[i]? = some ((List.range n).map fun j => fQ (flN n M j i) / fQ (pN n (mf M) i)) := by
  have e : (bkM n M)[i]? = some ((List.range n).map fun j => flN n M j i) := by
    unfold bkM
    rw [List.getElem?_map, List.getElem?_range hi]
    rfl
  unfold walkM
  rw [List.getElem?_map, e]
  show some (overQ _) = _
  rw [overQ_eq (n := n) (by simp), ← h.bk_sum hi, mf_row e]
  refine congrArg some (List.map_congr_left fun j hj => ?_)
  rw [List.getD_eq_getElem?_getD, List.getElem?_map, List.getElem?_range (List.mem_range.mp hj)]
  rfl
theorem Wk.bk_over {n : Nat} {M : List (List Nat)} (h : Wk n M) {i : Nat} (hi : i < n) :
    (((List.range n).map fun j => fQ (flN n M j i) / fQ (allN n M)).map fun q => q / Bq.sumQ ((List.range n).map fun j => fQ (flN n M j i) / fQ (allN n M))) = (List.range n).map fun j => fQ (flN n M j i) / fQ (pN n (mf M) i) := by
  have a0 := fQ_ne h.all_pos
  have e : sN n (fun j => flN n M j i) = pN n (mf M) i := sol_bal (mf M) h.n1 i hi
  rw [sumQ_div, e, List.map_map]
  refine List.map_congr_left fun j hj => ?_
  have p0 := fQ_ne (h.pN_pos hi)
  show fQ (flN n M j i) / fQ (allN n M) / (fQ (pN n (mf M) i) / fQ (allN n M)) = _
  generalize fQ (allN n M) = a at *
  generalize fQ (pN n (mf M) i) = b at *
  grind
theorem Wk.sum_pos {n : Nat} {M : List (List Nat)} (h : Wk n M) {i : Nat} (hi : i < n) : 0 < Bq.sumQ ((List.range n).map fun j => fQ (flN n M j i) / fQ (allN n M)) := by
  have e : sN n (fun j => flN n M j i) = pN n (mf M) i := sol_bal (mf M) h.n1 i hi
  rw [sumQ_div, e]
  exact h.sh_pos hi
theorem Wk.bk_sz2 {n : Nat} {M : List (List Nat)} (h : Wk n M) {i j : Nat} (hi : i < n) (hj : j < n) : Bq.Sz 770 (fQ (flN n M j i) / fQ (pN n (mf M) i)) :=
  fQ_sz (Nat.lt_of_lt_of_le (h.fl_lt hj hi) (pow_le (by omega))) (Nat.lt_of_lt_of_le (h.pN_lt hi) (pow_le (by omega))) (h.pN_pos hi)
/-! ### products round a ring -/
def fw (R : Nat → Nat → Rat) : List (Nat × Nat) → Rat
  | [] => 1
  | p :: t => R p.1 p.2 * fw R t
theorem fw_app (R : Nat → Nat → Rat) : ∀ l m, fw R (l ++ m) = fw R l * fw R m
  | [], m => by
    rw [List.nil_append, fw]
    grind
  | p :: l, m => by
    rw [List.cons_append, fw, fw_app R l m, fw]
    grind
theorem fw_one (R : Nat → Nat → Rat) (p : Nat × Nat) : fw R [p] = R p.1 p.2 := by
  rw [fw, fw]
  grind
theorem fw_congr {R S : Nat → Nat → Rat} : ∀ {l : List (Nat × Nat)}, (∀ p ∈ l, R p.1 p.2 = S p.1 p.2) → fw R l = fw S l
  | [], _ => rfl
  | p :: l, h => by
    rw [fw, fw, h p List.mem_cons_self, fw_congr fun q hq => h q (List.mem_cons_of_mem _ hq)]
def prf (f : Nat → Rat) : List Nat → Rat
  | [] => 1
  | a :: t => f a * prf f t
theorem prf_app (f : Nat → Rat) : ∀ l m, prf f (l ++ m) = prf f l * prf f m
  | [], m => by
    rw [List.nil_append, prf]
    grind
  | a :: l, m => by
    rw [List.cons_append, prf, prf_app f l m, prf]
    grind
theorem prf_ne {f : Nat → Rat} : ∀ {l : List Nat}, (∀ a ∈ l, f a ≠ 0) → prf f l ≠ 0
  | [], _ => by
    rw [prf]
    decide
  | a :: l, h => by
    have h1 := h a List.mem_cons_self
    have h2 := prf_ne (f := f) (l := l) fun b hb => h b (List.mem_cons_of_mem _ hb)
    rw [prf]
    exact fun z => (Rat.mul_eq_zero.mp z).elim h1 h2
theorem fw_ratio {f : Nat → Rat} {g : Nat → Nat → Rat} : ∀ {l : List (Nat × Nat)}, (∀ p ∈ l, f p.1 ≠ 0) → fw (fun x y => f y / f x * g x y) l = prf f (l.map (·.2)) / prf f (l.map (·.1)) * fw g l
  | [], _ => by
    simp only [fw, List.map_nil, prf]
    grind
  | p :: l, h => by
    have h1 := h p List.mem_cons_self
    have h2 := prf_ne (f := f) (l := l.map (·.1)) fun b hb => by
      obtain ⟨q, hq, rfl⟩ := List.mem_map.mp hb
      exact h q (List.mem_cons_of_mem _ hq)
    rw [fw, fw_ratio fun q hq => h q (List.mem_cons_of_mem _ hq), fw]
    simp only [List.map_cons, prf]
    generalize prf f (l.map (·.1)) = a at *
    generalize prf f (l.map (·.2)) = b at *
    grind
theorem fw_ratio2 {f : Nat → Rat} {g : Nat → Nat → Rat} : ∀ {l : List (Nat × Nat)}, (∀ p ∈ l, f p.2 ≠ 0) → fw (fun x y => f x / f y * g x y) l = prf f (l.map (·.1)) / prf f (l.map (·.2)) * fw g l
  | [], _ => by
    simp only [fw, List.map_nil, prf]
    grind
  | p :: l, h => by
    have h1 := h p List.mem_cons_self
    have h2 := prf_ne (f := f) (l := l.map (·.2)) fun b hb => by
      obtain ⟨q, hq, rfl⟩ := List.mem_map.mp hb
      exact h q (List.mem_cons_of_mem _ hq)
    rw [fw, fw_ratio2 fun q hq => h q (List.mem_cons_of_mem _ hq), fw]
    simp only [List.map_cons, prf]
    generalize prf f (l.map (·.1)) = a at *
    generalize prf f (l.map (·.2)) = b at *
    grind
/-- the steps of a ring -/
def rot (l : List Nat) : List Nat := l.drop 1 ++ l.take 1
def stp (l : List Nat) : List (Nat × Nat) := l.zip (rot l)
theorem rot_len (l : List Nat) : (rot l).length = l.length := by
  unfold rot
  rw [List.length_append, List.length_drop, List.length_take]
  omega
theorem stp_fst (l : List Nat) : (stp l).map (·.1) = l := by
  unfold stp
  exact List.map_fst_zip (Nat.le_of_eq (rot_len l).symm)
theorem stp_snd (l : List Nat) : (stp l).map (·.2) = rot l := by
  unfold stp
  exact List.map_snd_zip (Nat.le_of_eq (rot_len l))
theorem prf_rot (f : Nat → Rat) (l : List Nat) : prf f (rot l) = prf f l := by
  have h := prf_app f (l.take 1) (l.drop 1)
  rw [List.take_append_drop] at h
  unfold rot
  rw [prf_app, h]
  grind
theorem stp_mem {l : List Nat} {p : Nat × Nat} (h : p ∈ stp l) : p.1 ∈ l ∧ p.2 ∈ l := by
  constructor
  · have : p.1 ∈ (stp l).map (·.1) := List.mem_map.mpr ⟨p, h, rfl⟩
    rw [stp_fst] at this
    exact this
  · have : p.2 ∈ (stp l).map (·.2) := List.mem_map.mpr ⟨p, h, rfl⟩
    rw [stp_snd] at this
    unfold rot at this
    rcases List.mem_append.mp this with z | z
    · exact List.mem_of_mem_drop z
    · exact List.mem_of_mem_take z
/-- backwards both products are exchanged -/
theorem Wk.turned {n : Nat} {M : List (List Nat)} (h : Wk n M) {l : List Nat} (hl : ∀ a ∈ l, a < n) :
    fw (chQ n (mf (bkM n M))) (stp l) = fw (fun x y => chQ n (mf M) y x) (stp l) ∧ fw (fun x y => chQ n (mf (bkM n M)) y x) (stp l) = fw (chQ n (mf M)) (stp l) := by
  let f : Nat → Rat := fun i => fQ (pN n (mf M) i)
  have f0 : ∀ i, i < n → f i ≠ 0 := fun i hi => fQ_ne (h.pN_pos hi)
  have key : ∀ i j, i < n → j < n → chQ n (mf (bkM n M)) i j = f j / f i * chQ n (mf M) j i := fun i j hi hj => by
    have r := fQ_ne (h.p j hj)
    rw [h.bk_ch hi hj]
    show _ = fQ (pN n (mf M) j) / fQ (pN n (mf M) i) * chQ n (mf M) j i
    unfold chQ
    have e : fQ (pN n (mf M) j) = fQ (sol n (mf M) j) * fQ (sN n (mf M j)) := fQ_mul _ _
    have e2 : fQ (flN n M j i) = fQ (sol n (mf M) j) * fQ (mf M j i) := fQ_mul _ _
    rw [e, e2]
    generalize fQ (sN n (mf M j)) = a at *
    grind
  have p0 : prf f l ≠ 0 := prf_ne fun a ha => f0 a (hl a ha)
  constructor
  · have e1 : fw (chQ n (mf (bkM n M))) (stp l) = fw (fun x y => f y / f x * chQ n (mf M) y x) (stp l) := fw_congr fun p hp => key _ _ (hl _ (stp_mem hp).1) (hl _ (stp_mem hp).2)
    rw [e1, fw_ratio (f := f) (g := fun x y => chQ n (mf M) y x) fun p hp => f0 _ (hl _ (stp_mem hp).1), stp_fst, stp_snd, prf_rot]
    generalize prf f l = a at *
    grind
  · have e1 : fw (fun x y => chQ n (mf (bkM n M)) y x) (stp l) = fw (fun x y => f x / f y * chQ n (mf M) x y) (stp l) := fw_congr fun p hp => key _ _ (hl _ (stp_mem hp).2) (hl _ (stp_mem hp).1)
    rw [e1, fw_ratio2 (f := f) (g := fun x y => chQ n (mf M) x y) fun p hp => f0 _ (hl _ (stp_mem hp).2), stp_fst, stp_snd, prf_rot]
    show prf f l / prf f l * fw (chQ n (mf M)) (stp l) = _
    generalize prf f l = a at *
    grind
end Bw
/-! Part 13. The least of a tuple of numbers; how many unlike numbers are in it. -/
namespace Bw
open PySem PySem.Spec PyProof.Rows L2
section
variable {X : Cx}
def rMinT (K : PySem.W.Frag) : List V → Hp → VK → Prop := fun vs H Q => ∃ (a : Addr) (ns : List Int), vs = [V.ref a] ∧ SqT K H a (ns.map V.int) ∧ 0 < ns.length ∧ ∀ m, m ∈ ns → (∀ y, y ∈ ns → m ≤ y) → Q (.int m) H
theorem cr_minT (hc : X.calm = true) : CallR X (.builtin "min") (rMinT X.K) := by
  intro pins s σ H vs us Q I r h
  obtain ⟨a, ns, rfl, hs, hne, q⟩ := h
  obtain ⟨its, rv, hl, _⟩ := I.tuple hs
  rw [Vals.ref1 r]
  have hi := rv.ints
  obtain ⟨xs, e⟩ := hi.allInts.items
  have hn : numsOf (intItems xs).toList = ns := by rw [← e]; exact hi.numsOf
  rw [nums_intItems] at hn
  subst hn
  have hlt : s.heap.IsTuple a (intItems xs) := by
    rw [← e]
    exact hl
  have hsz : 0 < xs.size := by simpa using hne
  have ha : a < s.heap.objs.size := by
    obtain ⟨o, ho, _⟩ := hlt
    exact Heap.lt_size ho
  refine PySem.call_min_walk (wpAny_pyIter_tuple hlt ?_)
  refine ⟨_, [_, a], [_], _, _, _, _, rfl, Walks.tuple (A := X.A.in1) (I.ok.hd hc) _ a (Nat.ne_of_lt ha) (intItems xs), ⟨⟨_, Heap.get?_push_size _ rfl, rfl, rfl⟩, hlt.push _⟩, fun c hc => ?_, by simpa [intItems] using hsz, CmpOf.ints_lt (numAt xs) (fun _ _ => intItems_at), fun v h' tk hP hk => ?_⟩
  · show c < (s.heap.push _).objs.size
    rw [Heap.size_push]
    rcases List.mem_cons.mp hc with rfl | hc
    · exact Nat.lt_succ_self _
    · rcases List.mem_cons.mp hc with rfl | hc
      · exact Nat.lt_succ_of_lt ha
      · cases hc
  · have hold : ∀ c o, s.heap.get? c = some o → h'.get? c = some o := fun c o e => by
      refine hk c o (fun hm => ?_) (Heap.get?_push_of_some _ e)
      rcases List.mem_cons.mp hm with e1 | hm
      · have := Heap.lt_size e
        rw [e1] at this
        exact Nat.lt_irrefl _ this
      · cases hm
    have hv : (intItems xs)[argBest (fun i j => decide (numAt xs i < numAt xs j)) (xs.size - 1)]? = some v := by simpa [intItems] using hP
    obtain ⟨t, rfl⟩ := intItems_at hv
    obtain ⟨h1, h2⟩ := argBest_lt (numAt xs) (xs.size - 1)
    refine ⟨.int _, H, I.kept hold, ⟨_, rfl⟩, q _ ?_ fun y hy => ?_⟩
    · rw [numAt_eq]; exact PySem.getD_mem (by rw [List.length_map, Array.length_toList]; omega)
    · obtain ⟨j, hj, rfl⟩ := mem_getD hy
      rw [List.length_map, Array.length_toList] at hj
      rw [← numAt_eq]; exact h2 j (by omega)
def tLenSetT (K : PySem.W.Frag) (ta : TE) : TE := fun σ H Q => ta σ H fun x H1 => ∃ (l : Addr) (ns : List Int), x = .ref l ∧ SqT K H1 l (ns.map V.int) ∧ ns.length ≤ 1000 ∧ ∀ out : List Int, out.Nodup → (∀ k, k ∈ out ↔ k ∈ ns) → Q (.int (out.length : Nat)) H1
theorem pe_lenSetT {a : Expr} {ta : TE} {p p2 q pos : PySem.Pos} (hg : Gl X "len") (hm : X.mg "len" = none) (hg2 : Gl X "set") (hm2 : X.mg "set" = none) (ha : PE X a ta) (hc : X.calm = true := by rfl)
    (na : starEach [a] X.env = (false, eval a X.env) :: starEach [] X.env := by rfl) : PE X (.Call (.Name "len" p) [.Call (.Name "set" p2) [a] [] q] [] pos) (tLenSetT X.K ta) := by
  refine ⟨fun pins s σ H Q I h => ?_⟩
  refine Call_ (ld_blt I hg hm boot_len ?_)
  refine PyProof.Rows.callWith_builtin1 (PyProof.Rows.args_cons ?_ rfl) rfl rfl
  refine Call_ (ld_blt I hg2 hm2 boot_set ?_)
  refine PyProof.Rows.callWith_type1 (PyProof.Rows.args_cons (thn (ha.run pins s σ H _ I h) fun v s1 ⟨x, H1, I1, r1, q1⟩ => PyProof.Rows.args_nil ?_) na) na rfl
  obtain ⟨l, ns, rfl, hq, hl, q1⟩ := q1
  cases r1
  obtain ⟨its, rv, pt, hz⟩ := I1.tuple hq
  have hi : IntsAre its.toArray.toList ns := ints_of_vals rv
  refine call_set_tupI ns (I1.ok.hd hc) (show s1.heap.IsTuple l its.toArray from pt) hi (by unfold scanBound; omega) fun h' tk c R1 hcn hk => ?_
  obtain ⟨o, es, ep, t, ho, hex, hd, g, nd, hm2, hb, hf, hn, _, _⟩ := R1
  refine PyProof.Rows.args_nil ?_
  have I2 : Inv X pins σ H1 { s1 with heap := h', toks := tk } := I1.kept hk
  refine call_len_set ho hex hd hf (by unfold scanBound at hb; omega) ⟨.int es.size, H1, I2.tok _, ⟨_, rfl⟩, ?_⟩
  have h3 := q1 (es.toList.map keyOf) nd fun k => by rw [← hm2 k, decide_eq_true_eq]
  rw [List.length_map, Array.length_toList] at h3
  exact h3
end
end Bw
/-! Part 14. enumerate of a tuple, zip of two tuples in a comprehension, x *= y. -/
namespace Bw
open PySem PySem.Spec PyProof.Rows L2
theorem meets_newT {v : Value} {ob : Obj} {G : Heap → Prop} (B : Begins v ob G) :
    Meets (Builtin.«enumerate.__new__» ⟨[.type "enumerate", v], []⟩) (fun _ R s =>
      G s.heap ∧ R (.ok (.ret (.ref (s.heap.push ob).objs.size))) { s with
        heap := (s.heap.push ob).push { cls := .type "enumerate", data := .fields #[.none, .bool false, .ref s.heap.objs.size, rawInt 0, .none, .none] } }) :=
  .of_wp fun pg wo Ar R s z => by
    obtain ⟨hp, gs, dr, tk, os⟩ := s
    obtain ⟨z1, z⟩ := z
    have sub0 := sub_enumerate
    have begun : ∀ {A' : Around} {E Q : Value → Shared → Prop}, Q (.ref hp.objs.size) ⟨hp.push ob, gs, dr, tk, os⟩ →
        wpAny (model pg wo) A' (pyIter v) Q E ⟨hp, gs, dr, tk, os⟩ := fun y => B.iter pg wo _ _ ⟨hp, gs, dr, tk, os⟩ _ z1 y
    wp_walk using begun
    refine wpAny_stack_any fun sk => wpAny_pure ?_
    split
    · rename_i c _ _ _ _ _
      cases (c == Value.type "enumerate")
      · wp_walk using begun
        exact ⟨_, rfl, z⟩
      · wp_walk using begun
        exact ⟨_, rfl, z⟩
    · wp_walk using begun
      exact ⟨_, rfl, z⟩
end Bw
/-! Part 14. enumerate of a tuple, zip of two tuples in a comprehension, x *= y. -/
namespace Bw
open PySem PySem.Spec PyProof.Rows L2
section
variable {pg : Program} {wo : World} {Ar : Around} {E : Value → Shared → Prop} {s : Shared}
theorem call_enumT {v : Value} {ob : Obj} {G : Heap → Prop} {Q : Value → Shared → Prop} (B : Begins v ob G) (z : G s.heap)
    (q : ∀ h', IsEnum h' (s.heap.objs.size + 1) s.heap.objs.size 0 .none → h'.get? s.heap.objs.size = some ob →
      (∀ b o, s.heap.get? b = some o → h'.get? b = some o) → Q (.ref (s.heap.objs.size + 1)) { s with heap := h' }) :
    wpAny (model pg wo) Ar (call (.type "enumerate") [v]) Q E s := by
  refine callType_new F.called_enumerate (by decide) (F.typeCall_enumerate_1 _) (F.newCall_enumerate_1 _) (fun o => F.args_object_init_2 o _) F.entry_enumerate_new (meets_newT B) ⟨z, ?_⟩
  have sz : (s.heap.push ob).objs.size = s.heap.objs.size + 1 := Heap.size_push ..
  show _ ∧ _
  rw [sz]
  have en : IsEnum ((s.heap.push ob).push { cls := .type "enumerate", data := .fields #[.none, .bool false, .ref s.heap.objs.size, rawInt 0, .none, .none] })
      (s.heap.objs.size + 1) s.heap.objs.size 0 .none := by
    rw [← sz]
    exact Heap.get?_push_size _ rfl
  exact ⟨⟨_, en, rfl⟩, q _ en (Heap.get?_push_of_some _ (Heap.get?_push_size _ B.free)) fun b o y => Heap.get?_push_of_some _ (Heap.get?_push_of_some _ y)⟩
end
section
variable {pg : Program} {wo : World} {Ar : Around} {E : Value → Shared → Prop} {s : Shared}
theorem wpAny_pyNext_tupEnd {e it a : Addr} {i : Nat} {items : Array Value} {old : Value} {Q : Option Value → Shared → Prop} (hh : Ar.handled = none)
    (he : IsEnum s.heap e it ((i : Nat) : Int) old) (hit : s.heap.IsTupleIter it a i) (ht : s.heap.IsTuple a items) (na : a ≠ it) (hi : items.size ≤ i)
    (q : ∀ h', Heap.ExtBut it s.heap h' → Q none { s with heap := h' }) : wpAny (model pg wo) Ar (pyNext (.ref e)) Q E s := by
  have ty : s.TypeIs (.ref e) "enumerate" := ⟨_, he, rfl⟩
  unfold pyNext
  refine wpAny_bind (wpAny_attempt (wpAny_callSpecial?_slot (name := Str.ofString "__next__") ty F.slot_enumerate_next (wpAny_call_entry F.slot_enumerate_next ty F.entry_enumerate_next ?_ (F.args_enumerate_next_1 _))))
  show wpAny _ _ (field (.ref e) 2 >>= _) _ _ _
  refine wpAny_bind (wpAny_field he rfl (x := .ref it) rfl ?_)
  refine wpAny_bind (wpAny_nextOf_tuple_end (by simpa using hh) hit ht (by simpa using hi) fun h' x ex hx => ?_)
  obtain ⟨o, go, co⟩ := hx
  exact wpAny_bind (wpAny_isInstance (T := "StopIteration") (b := true) ⟨o, go, co⟩ isSubtype_stop (wpAny_pure (q _ ex)))
end
/-- the items of the tuple at a, each in a new pair behind its index -/
def IteT (K : PySem.W.Frag) (a : Addr) : It :=
  ⟨fun i H => ∃ (xs : List V) (x : V), SqT K H a xs ∧ xs[i]? = some x,
   fun i H v H' => ∃ T x, v = .ref T ∧ H T = none ∧ H' = upd H T (.tup [.int (i : Nat), x]) ∧ ∀ xs, SqT K H a xs → xs[i]? = some x,
   fun i H => ∃ xs : List V, SqT K H a xs ∧ xs.length ≤ i⟩
theorem walk_enumT {K : PySem.W.Frag} {a : Addr} {xs : List V} : Walk (IteT K a) xs.length (fun H => SqT K H a xs) (YPair (fun i => some (.int (i : Nat))) (fun i => xs[i]?)) := by
  refine ⟨fun i _ hi q => ⟨xs, xs[i], q, List.getElem?_eq_getElem hi⟩, fun _ q => ⟨xs, q, Nat.le_refl _⟩, fun i H v H' _ q y => ?_⟩
  obtain ⟨T, x, e1, e2, e3, e4⟩ := y
  exact ⟨T, _, x, e1, e2, e3, rfl, e4 xs q⟩
theorem turn_enumT {P : Program} {w : World} {K : PySem.W.Frag} {elts : List Expr} {kk : Nat} {tp : PySem.Pos} (a e it : Addr) :
    Turn P w K (.Tuple elts kk tp) (IteT K a) [e, it] e (fun i h => (∃ old, IsEnum h e it ((i : Nat) : Int) old) ∧ h.IsTupleIter it a i ∧ e ≠ it) where
  mem := List.mem_cons_self
  obj := fun i h st b hb => by
    obtain ⟨⟨old, he⟩, ⟨o, ho, hc, hd⟩, _⟩ := st
    rcases List.mem_cons.mp hb with z | z
    · subst z
      exact ⟨_, he, fun v q => nomatch q⟩
    · obtain rfl := List.mem_singleton.mp z
      refine ⟨o, ho, fun v q => ?_⟩
      rw [hd] at q
      cases q
  keep := fun i h h' st k => ⟨st.1.imp fun old he => k e List.mem_cons_self _ he, st.2.1.at fun o q => k it (by simp) o q, st.2.2⟩
  item := by
    intro X hP hw hK hc i pins s σ H E I hf st hg
    subst hP hw hK
    obtain ⟨⟨old, he⟩, hit, hne⟩ := st
    obtain ⟨xs, x0, hq, hx⟩ := hg
    obtain ⟨its, rv, pt, hz⟩ := I.tuple hq
    have tup : s.heap.IsTuple a its.toArray := pt
    obtain ⟨u0, hu, ru⟩ := rv.get hx
    have nai : a ≠ it := fun z => by
      obtain ⟨o1, g1, c1, _⟩ := tup
      obtain ⟨o2, g2, c2, _⟩ := hit
      rw [z, g2] at g1
      cases g1
      rw [c1] at c2
      injection c2 with c3
      revert c3
      decide
    have nea : e ≠ a := fun z => by
      obtain ⟨o1, g1, c1, _⟩ := tup
      rw [← z, he] at g1
      cases g1
      injection c1 with c3
      revert c3
      decide
    have hel : e < s.heap.objs.size := Heap.lt_size he
    have hil : it < s.heap.objs.size := by
      obtain ⟨_, q, _⟩ := hit
      exact Heap.lt_size q
    have hlt : i < its.toArray.size := by
      rw [List.size_toArray]
      exact (List.getElem?_eq_some_iff.mp hu).1
    refine wpAny_pyNext_enum_itemD (Draws.tuple (A := X.A.in1) (I.ok.hd hc) it a nai its.toArray) he ⟨hit, tup⟩ hlt hne (by simp [hne, nea]) fun x h' tk hPx ho hst' hT hsz hk => ?_
    have exu : x = u0 := by
      have h1 : its.toArray[i]? = some x := hPx
      rw [List.getElem?_toArray, hu] at h1
      exact (Option.some.inj h1).symm
    subst exu
    refine ⟨_, rfl, wpAny_letOwnedTupleGo_enum (s := { s with heap := h', toks := tk + 1 }) ho fun h2 he2 sb => ?_⟩
    have hT2 : h2.get? s.heap.objs.size = some { cls := .type "tuple", data := .seq #[.int i tk, x] } := (sb.2 _ (Nat.ne_of_gt hel)).trans hT
    have fresh : ObjOk X.prog X.w (upd H s.heap.objs.size (.tup [.int (i : Nat), x0])) h2 s.heap.objs.size (.tup [.int (i : Nat), x0]) :=
      ⟨by show 2 ≤ sizeLine; decide, [.int i tk, x], .cons ⟨_, rfl⟩ (.cons ru .nil), ⟨_, hT2, rfl, _, rfl⟩⟩
    have I1 : Inv X pins σ (upd H s.heap.objs.size (.tup [.int (i : Nat), x0])) { s with heap := h2, toks := tk + 1 } :=
      I.turnedNew (ch := [e, it]) (fun b o hb q => (sb.2 b fun z => hb (by simp [z])).trans (hk b o (fun z => hb (by simp [z])) (fun z => hb (by simp [z])) q)) hf (Nat.le_refl _) fresh
    refine ⟨.ref s.heap.objs.size, _, I1, rfl, ⟨_, x0, rfl, I.hok.fresh (Nat.le_refl _), rfl, fun ys hy => ?_⟩, ⟨⟨x, ?_⟩, hst'.1.at fun o q => (sb.2 it (Ne.symm hne)).trans q, hne⟩, fun b hb => ?_⟩
    · rw [I.tuple_inj hy hq]
      exact hx
    · have e1 : ((i + 1 : Nat) : Int) = (i : Int) + 1 := by omega
      rw [e1]
      exact he2
    · have hb2 : b < s.heap.objs.size := by
        rcases List.mem_cons.mp hb with z | z
        · rw [z]
          exact hel
        · rw [List.mem_singleton.mp z]
          exact hil
      rw [upd_ne (Nat.ne_of_lt hb2)]
      exact (hf b hb).1
  done := by
    intro X hP hw hK hc i pins s σ H E I hf st hg
    subst hP hw hK
    obtain ⟨⟨old, he⟩, hit, hne⟩ := st
    obtain ⟨xs, hq, hx⟩ := hg
    obtain ⟨its, rv, pt, hz⟩ := I.tuple hq
    have tup : s.heap.IsTuple a its.toArray := pt
    have nai : a ≠ it := fun z => by
      obtain ⟨o1, g1, c1, _⟩ := tup
      obtain ⟨o2, g2, c2, _⟩ := hit
      rw [z, g2] at g1
      cases g1
      rw [c1] at c2
      injection c2 with c3
      revert c3
      decide
    obtain ⟨f0, f1, f2, f3, f4, f5⟩ := hf it (by simp)
    have hl := rv.length
    exact wpAny_pyNext_tupEnd (I.ok.hd hc) he hit tup nai (by rw [List.size_toArray]; omega) fun h' eb => ⟨rfl, I.turned (t' := s.toks) (fun b o hb q => eb b o hb q) f0 f1 f3 f4 f5⟩
  self := fun A i s Q E st h => let ⟨⟨_, he⟩, _⟩ := st; wpAny_pyIter_enum he h
def iEnumT (K : PySem.W.Frag) (ta : TA) : TI := fun σ H R => ta σ H fun vs H1 => ∃ a xs, vs = [.ref a] ∧ SqT K H1 a xs ∧ R (IteT K a) H1
theorem pi_enumT {X : Cx} {e : Expr} {ta : TA} {p pos tp : PySem.Pos} {elts : List Expr} {kk : Nat} (hg : Gl X "enumerate") (hm : X.mg "enumerate" = none) (ha : PA X [e] ta) (hs : starEach [e] X.env = [(false, eval e X.env)] := by rfl) :
    PI X (.Tuple elts kk tp) (.Call (.Name "enumerate" p) [e] [] pos) (iEnumT X.K ta) := by
  refine ⟨fun pins s σ H R I h => ?_⟩
  refine Call_ (ld_blt I hg hm boot_enumerate (PyProof.Rows.callWith_type1 (thn (ha.run pos pins s σ H _ I h) fun us s1 ⟨vs, H1, I1, r1, q1⟩ => ?_) hs rfl))
  obtain ⟨a, xs, ex, hq, q⟩ := q1
  subst ex
  cases r1 with
  | cons r rr =>
    cases rr
    cases r
    obtain ⟨its, rv, pt, hz⟩ := I1.tuple hq
    refine call_enumT (begins_tuple a its.toArray) pt fun h' he hit hk => wpAny_pyIter_enum he ?_
    have I2 : Inv X pins σ H1 { s1 with heap := h' } := I1.kept (t' := s1.toks) hk
    refine ⟨s1.heap.objs.size + 1, [s1.heap.objs.size + 1, s1.heap.objs.size], _, _, H1, rfl, I2, turn_enumT a (s1.heap.objs.size + 1) s1.heap.objs.size, ⟨⟨.none, he⟩, ⟨_, hit, rfl, rfl⟩, Nat.succ_ne_self _⟩, fun b hb => ?_, q⟩
    have hle : s1.heap.objs.size ≤ b := by
      rcases List.mem_cons.mp hb with z | z
      · rw [z]
        exact Nat.le_succ _
      · rw [List.mem_singleton.mp z]
        exact Nat.le_refl _
    exact I1.fpOk hle (I1.hok.fresh hle)
theorem walk_zipT {K : PySem.W.Frag} {a b : Addr} {xs ys : List V} (hl : xs.length = ys.length) : Walk (RZ.ItzT K a b) xs.length (fun H => SqT K H a xs ∧ SqT K H b ys) (YPair (fun i => xs[i]?) (fun i => ys[i]?)) := by
  refine ⟨fun i _ hi q => ⟨xs, ys, xs[i], ys[i]'(by omega), q.1, q.2, List.getElem?_eq_getElem hi, List.getElem?_eq_getElem (by omega)⟩, fun _ q => ⟨xs, ys, q.1, q.2, .inl (Nat.le_refl _)⟩, fun i H v H' _ q y => ?_⟩
  obtain ⟨T, x, z, e1, e2, e3, e4, e5⟩ := y
  exact ⟨T, x, z, e1, e2, e3, e4 xs q.1, e5 ys q.2⟩
/-- a pair told of within a comprehension -/
theorem pg_tupK {K : PySem.W.Frag} {X : Cx} (hK : X.K = K) {es : List Expr} {k : Nat} {t : TGs} {n : Nat} {pos : PySem.Pos} (hc : X.calm = true) (h : PGs X es t) (hn : (assignEach es X.env).length = n := by rfl)
    (hst : (assignEach es X.env).findIdx? (·.1) = none := by rfl) : PG X (.Tuple es k pos) (gTup K n t) := by
  subst hK
  exact pg_tup hc h hn hst
/-- x *= y, numbers of any size -/
theorem ip_mulW {X : Cx} : PIp X .Mult (fun x y H Q => ∃ i j, x = .int i ∧ y = .int j ∧ CMulW i j ∧ Q (.int (i * j)) H) := by
  intro pins s σ H x y v u Q I r1 r2 h
  obtain ⟨i, j, rfl, rfl, hc, q⟩ := h
  obtain ⟨t, rfl⟩ := r1
  obtain ⟨t2, rfl⟩ := r2
  exact PyProof.Rows.imul_int ⟨.int _, H, I.tok _, ⟨_, rfl⟩, q⟩ hc.ok
end Bw
set_option exponentiation.threshold 4000
/-! Part 16. How long fractions are when they are printed. -/
namespace Bw
open PySem PySem.Spec PyProof.Rows L2
theorem tuple_len (ts : List Str) : (tupleText ts).length ≤ 3 + piled ts := by
  unfold tupleText
  have h1 : (Str.join ", " ts).length ≤ piled ts := by
    by_cases c : ts = []
    · subst c
      exact Nat.zero_le _
    · have := join_length_add ts c
      omega
  have h2 : (((if (ts.length == 1) = true then ",)" else ")" : String)) : Str).length ≤ 2 := by
    split <;> decide +kernel
  have h3 : (("(" : String) : Str).length = 1 := by decide +kernel
  rw [strLen_append, strLen_append]
  omega
theorem shown_tup_le {n m : Nat} {ds : List PyData} (h : ∀ d ∈ ds, d.shown.length ≤ n) (hl : ds.length ≤ m) : (PyData.tuple ds).shown.length ≤ 3 + (n + 2) * m := by
  simp only [PyData.shown]
  have h1 := tuple_len (PyData.shownAll ds)
  have h2 : piled (PyData.shownAll ds) ≤ (n + 2) * (PyData.shownAll ds).length := piled_le fun t ht => by
    rw [shownAll_map] at ht
    obtain ⟨d, hd, rfl⟩ := List.mem_map.mp ht
    exact h d hd
  have h3 : (PyData.shownAll ds).length = ds.length := by rw [shownAll_map, List.length_map]
  rw [h3] at h2
  have h4 : (n + 2) * ds.length ≤ (n + 2) * m := Nat.mul_le_mul_left _ hl
  omega
theorem log_small {i : Int} (h : i.natAbs < 2 ^ 1900) : i.natAbs.log2 < 1920 := by
  by_cases z : i.natAbs = 0
  · rw [z]
    decide
  · refine (Nat.log2_lt z).mpr (Nat.lt_of_lt_of_le h (Nat.pow_le_pow_right (by decide) (by omega)))
theorem int_ok {i : Int} (h : i.natAbs < 2 ^ 1900) : (PyData.int i).showable = true ∧ (PyData.int i).shown.length ≤ 1921 ∧ (PyData.int i).depth = 0 := by
  have hl := log_small h
  refine ⟨?_, ?_, by simp only [PyData.depth]⟩
  · simp only [PyData.showable]
    exact decide_eq_true hl
  · simp only [PyData.shown]
    exact int_text_len_1921 hl
theorem of_show {i : Int} (h : (PyData.int i).showable = true) : decide (i.natAbs.log2 < 1920) = true := by
  simpa only [PyData.showable] using h
theorem fr_ok {q : Rat} (h : Bq.Sz 1900 q) : (frD q).showable = true ∧ (frD q).shown.length ≤ 3849 ∧ (frD q).depth ≤ 1 := by
  have h1 := int_ok (i := q.num) h.1
  have h2 := int_ok (i := (q.den : Int)) (Bq.den_abs h)
  refine ⟨?_, ?_, ?_⟩
  · unfold frD
    simp only [PyData.showable, PyData.showableAll, Bool.and_true, Bool.and_eq_true]
    exact ⟨of_show h1.1, of_show h2.1⟩
  · refine shown_tup_le (n := 1921) (m := 2) (fun d hd => ?_) (Nat.le_refl 2)
    rcases List.mem_cons.mp hd with rfl | hd
    · exact h1.2.1
    · rw [List.mem_singleton.mp hd]
      exact h2.2.1
  · unfold frD
    simp only [PyData.depth, PyData.depthAll]
    decide
theorem pair_ok {p q : Rat} (hp : Bq.Sz 1900 p) (hq : Bq.Sz 1900 q) : (PyData.tuple [frD p, frD q]).showable = true ∧ (PyData.tuple [frD p, frD q]).shown.length ≤ 10000 ∧ (PyData.tuple [frD p, frD q]).depth ≤ 9 := by
  have h1 := fr_ok hp
  have h2 := fr_ok hq
  refine ⟨?_, ?_, ?_⟩
  · simp only [PyData.showable, PyData.showableAll, Bool.and_true, Bool.and_eq_true]
    exact ⟨h1.1, h2.1⟩
  · have := shown_tup_le (n := 3849) (m := 2) (ds := [frD p, frD q]) (fun d hd => by
      rcases List.mem_cons.mp hd with rfl | hd
      · exact h1.2.1
      · rw [List.mem_singleton.mp hd]
        exact h2.2.1) (Nat.le_refl 2)
    omega
  · simp only [PyData.depth, PyData.depthAll]
    have e1 := h1.2.2
    have e2 := h2.2.2
    omega
end Bw
/-! The well of drawn numbers: what the law draws from. -/
namespace Kx
open PySem PySem.Spec PyProof.Rows L2 Bw

def topS (i : Nat) : Stmt := PySem.Challenge.pw_backwalks_k07_rings_of_anything_and_prod.main.body.getD i (.Pass ⟨0, 0, 0, 0⟩)

/-- the built-ins that the text calls are still those -/
structure Mb (mg : Str → Option Value) : Prop where
  int : mg "int" = none
  len : mg "len" = none
  abs : mg "abs" = none
  divmod : mg "divmod" = none
  range : mg "range" = none
  enumerate : mg "enumerate" = none
  isinstance : mg "isinstance" = none
  repr : mg "repr" = none
  tuple : mg "tuple" = none
  list : mg "list" = none
  all : mg "all" = none
  zip : mg "zip" = none
  str : mg "str" = none
  bool : mg "bool" = none
  set : mg "set" = none
  min : mg "min" = none
  max : mg "max" = none
  sorted : mg "sorted" = none

abbrev s_law_well : Stmt := topS 31
abbrev n_law_well : List Str := ["script", "salt", "stir", "cell"]
theorem c_law_well : FnScope n_law_well ["script", "salt"] (defScope s_law_well) :=
  ⟨rfl, rfl, rfl, by decide +kernel, rfl, by decide +kernel, by decide +kernel⟩

abbrev s_law_pick : Stmt := topS 32
abbrev n_law_pick : List Str := ["well", "limit", "rest", "digit"]
theorem c_law_pick : FnScope n_law_pick ["well", "limit"] (defScope s_law_pick) :=
  ⟨rfl, rfl, rfl, by decide +kernel, rfl, by decide +kernel, by decide +kernel⟩

abbrev s_law_of : Stmt := topS 33
abbrev n_law_of : List Str := ["well", "some"]
theorem c_law_of : FnScope n_law_of ["well", "some"] (defScope s_law_of) :=
  ⟨rfl, rfl, rfl, by decide +kernel, rfl, by decide +kernel, by decide +kernel⟩


/-- the well at w -/
def WellAt (w l : Addr) (H : Hp) : Prop := ∃ (st n : Int) (ns : List Int), H w = some (.lst [.ref l, .int st, .int n]) ∧ l ≠ w ∧
  H l = some (.lst (ns.map V.int)) ∧ ns.length ≤ 63
def IsWell (w : Addr) (H : Hp) : Prop := ∃ l : Addr, WellAt w l H
abbrev At (w : Addr) : Addr → Prop := fun a => a = w

section
variable {P : Program} {w : World} {K : PySem.W.Frag} {mg : Str → Option Value} {base : Heap}

def spWell (K : PySem.W.Frag) : Sp := fun vs H Q _ => ∃ (a : Addr) (ns : List Int) (salt : Int), vs = [.ref a, .int salt] ∧ SqL K H a (ns.map V.int) ∧ ns.length ≤ 63 ∧
  ∀ (H' : Hp) (w : Addr), H w = none → Same H H' → IsWell w H' → Q (.ref w) H'
theorem cut63 {ns : List Int} (h : ns.length ≤ 63) : cutV (ns.map V.int) none (some 63) = ns.map V.int := by
  unfold cutV
  rw [HT.sIx_none, show HT.sIx (ns.map V.int).length (ns.map V.int).length (some 63) = min 63 (ns.map V.int).length from HT.sIx_nat _ _ 63]
  rw [List.drop_zero, Nat.sub_zero, List.length_map]
  exact List.take_of_length_le (by rw [List.length_map]; omega)
theorem ok_well {f : Addr} {fd : FuncData} (F : Fun K "_law_well" "_law_well" s_law_well f fd) (M : Mb mg) : FnOk P w K mg base CX0 1 f fd ["script", "salt"] (spWell K) := by
  refine F.ok c_law_well (fun vs H Q E h => ?_) (fun cdv A outer s H vs Q E hr h => ?_)
  · obtain ⟨a, ns, salt, rfl, _⟩ := h
    rfl
  · obtain ⟨a, ns, salt, rfl, hS, hlen, q⟩ := h
    refine ⟨_, (pss_cons (ps_set (i := 2) c_law_well.nd rfl (.inl rfl) (pe_op op_add pe_int (pe_op op_mul pe_int (pv 1))))
 (pss_cons (ps_for PassesOwn.never rfl (pi_list (pe_slice sl_list (pv 0) po_none (po_some pe_int))) (pg_name (i := 3) c_law_well.nd rfl (.inl rfl))
 (pss_one (ps_set (i := 2) c_law_well.nd rfl (.inl rfl) (pe_op op_mod (pe_callTy call_int1 (by rfl) M.int (by decide +kernel) (pa_cons (pe_op op_add (pe_op op_add (pe_op op_mul (pv 2) pe_int) (pe_op op_mul (pe_op op_mod (pe_callTy call_int1 (by rfl) M.int (by decide +kernel) (pa_cons (pv 3) pa_nil)) pe_int) pe_int)) pe_int) pa_nil)) pe_int))))
 (pss_one (ps_ret (pe_lst (pa_cons (pe_lc (own := [("cell", 3)]) rfl c_law_well.nd (pi_list (pe_slice sl_list (pv 0) po_none (po_some pe_int))) (blkOk_by (own := [("cell", 3)]) (N := n_law_well) (sc := defScope s_law_well) (by decide +kernel)) (fun _ _ _ _ _ => (pg_name (i := 3) c_law_well.nd rfl (.inl rfl))) (fun _ _ _ _ _ => (pts_one (PW.pt (pw_or (pt_cmpR op_lt (pv 3) pe_int (nomark _)) (pw_or1 (pt_cmpR op_ge (pv 3) (pe_op op_pow pe_int pe_int) (nomark _))))))) (fun _ _ _ _ _ => (pe_callB (id := "abs") call_abs (by rfl) M.abs (by decide +kernel) (pa_cons (pv 3) pa_nil)))) (pa_cons (pv 2) (pa_cons pe_int pa_nil)))))))), ?_⟩
    refine ⟨_, rfl, _, _, rfl, rfl, .inl ⟨by decide, by decide⟩, _, _, rfl, rfl, ?_⟩
    -- for cell in script[:63]
    refine ⟨.ref a, rfl, 63, rfl, a, _, rfl, hS, fun c nc => ?_⟩
    rw [cut63 hlen]
    have s1 : Same H (upd H c (.lst (ns.map V.int))) := same_new nc
    refine ⟨c, rfl, ⟨_, .inl (.inl upd_same)⟩, for_list (K := K) (a := c) (xs := ns.map V.int)
      (fun i σ H' => ∃ (z : Int) (y : Option V), σ = [some (.ref a), some (.int salt), some (.int z), y] ∧ H' = upd H c (.lst (ns.map V.int)))
      ⟨_, none, rfl, rfl⟩ (fun i σ H' _ ⟨_, _, _, e⟩ => .inl (.inl (by rw [e]; exact upd_same))) ?_ ?_⟩
    · rintro i y σ H' hi ⟨z, y0, rfl, rfl⟩
      obtain ⟨x, hx, rfl⟩ := map_at hi
      refine ⟨_, rfl, _, _, rfl, rfl, .inr ⟨by decide, by decide⟩, ?_⟩
      refine ⟨_, rfl, .inl ⟨_, rfl, ?_⟩⟩
      refine ⟨_, _, rfl, rfl, (by show (0 : Int) < 2147483587; decide), ?_⟩
      refine ⟨_, _, rfl, rfl, .inr ⟨by decide, by decide⟩, ?_⟩
      refine ⟨_, _, rfl, rfl, _, _, rfl, rfl, .inl ⟨_, rfl, ?_⟩⟩
      exact ⟨_, _, rfl, rfl, (by show (0 : Int) < 2147483647; decide), _, _, rfl, rfl⟩
    · rintro σ H' ⟨z, y0, rfl, rfl⟩
      -- [[abs(cell) ..], stir, 0]
      refine ⟨.ref a, rfl, 63, rfl, a, _, rfl, s1.seq hS, fun c2 nc2 => ?_⟩
      rw [cut63 hlen]
      have s2 := s1.trans (same_new (o := .lst (ns.map V.int)) nc2)
      refine ⟨c2, rfl, ⟨_, .inl (.inl upd_same)⟩, fun D nD => ?_⟩
      refine lc_list (K := K) (a := c2) (xs := ns.map V.int)
        (fun i H' => ∃ ms : List Int, ms.length ≤ i ∧ H' D = some (.lst (ms.map V.int)) ∧ Same H H' ∧ H' c2 = some (.lst (ns.map V.int)))
        ⟨[], Nat.le_refl _, upd_same, s2.trans (same_new nD), ?_⟩ (fun i H' _ ⟨_, _, _, _, e⟩ => .inl (.inl e)) ?_ ?_
      · rw [upd_ne (ne_of_none upd_same nD)]
        exact upd_same
      · rintro i x H' hi ⟨ms, hm, eD, sm, e2⟩
        have hil : i < ns.length := by
          have := (List.getElem?_eq_some_iff.mp hi).1
          rwa [List.length_map] at this
        obtain ⟨x, hx, rfl⟩ := map_at hi
        refine ⟨rfl, ?_⟩
        have keepD : ∀ {y : V} {H1 : Hp}, H1 = H' → (∃ m, y = V.int m) → ∃ acc, H1 D = some (.lst acc) ∧ acc.length < sizeLine ∧
            ∃ ms : List Int, ms.length ≤ i + 1 ∧ (upd H1 D (.lst (acc ++ [y]))) D = some (.lst (ms.map V.int)) ∧ Same H (upd H1 D (.lst (acc ++ [y]))) ∧
              (upd H1 D (.lst (acc ++ [y]))) c2 = some (.lst (ns.map V.int)) := by
          rintro y H1 rfl ⟨m, rfl⟩
          refine ⟨_, eD, sz63' (by rw [List.length_map]; omega), ms ++ [m], by rw [List.length_append, List.length_singleton]; omega, ?_, ?_, ?_⟩
          · rw [upd_same, List.map_append]
            rfl
          · exact same_mut sm ((s2.free nD))
          · rw [upd_ne (ne_of_none upd_same nD)]
            exact e2
        have stay : ∃ ms : List Int, ms.length ≤ i + 1 ∧ H' D = some (.lst (ms.map V.int)) ∧ Same H H' ∧ H' c2 = some (.lst (ns.map V.int)) := ⟨ms, by omega, eD, sm, e2⟩
        refine ⟨_, rfl, _, _, rfl, rfl, _, rfl, ite2 (fun _ => ?_) (fun _ => ?_)⟩
        · refine iteT ?_
          exact ⟨_, rfl, _, rfl, keepD rfl ⟨_, rfl⟩⟩
        · refine ⟨_, rfl, _, _, rfl, rfl, ⟨by decide, by decide, by decide⟩, _, _, rfl, rfl, _, rfl, ite2 (fun _ => ?_) (fun _ => ?_)⟩
          · exact ⟨_, rfl, _, rfl, keepD rfl ⟨_, rfl⟩⟩
          · exact stay
      · rintro H' ⟨ms, hm, eD, sm, _⟩
        rw [List.length_map] at hm
        refine ⟨_, rfl, sz63 (by show 3 ≤ 1000; decide), fun v nv => ?_⟩
        have nDv : D ≠ v := ne_of_none eD nv
        refine q _ v (sm.free nv) (sm.trans (same_new nv)) ⟨D, _, _, ms, upd_same, nDv, ?_, by omega⟩
        rw [upd_ne nDv]
        exact eD

/-! ### a number is drawn -/
def spPickL : Sp := fun vs H Q _ => ∃ (w l : Addr) (limit : Int), vs = [.ref w, .int limit] ∧ 0 < limit ∧ limit < 1073741824 ∧ WellAt w l H ∧
  ∀ (H' : Hp) (d : Int) (l' : Addr), 0 ≤ d → d < limit → Kp (At w) H H' → WellAt w l' H' → (l' = l ∨ H l' = none) → Q (.int d) H'
def spPick : Sp := fun vs H Q _ => ∃ (w : Addr) (limit : Int), vs = [.ref w, .int limit] ∧ 0 < limit ∧ limit < 1073741824 ∧ IsWell w H ∧
  ∀ (H' : Hp) (d : Int), 0 ≤ d → d < limit → Kp (At w) H H' → IsWell w H' → Q (.int d) H'
theorem kp_free {w m : Addr} {H H' : Hp} (k : Kp (At w) H H') (h : H' m = none) (ne : m ≠ w) : H m = none := by
  cases e : H m with
  | none => rfl
  | some o =>
    rw [k m o ne e] at h
    cases h
/-- the same def under a weaker promise -/
theorem weaken {P : Program} {w : World} {K : PySem.W.Frag} {mg : Str → Option Value} {base : Heap} {CX : CXT} {k : Nat} {f : Addr} {fd : FuncData} {ps : List Str} {sp sp' : Sp} (F : FnOk P w K mg base CX k f fd ps sp)
    (h : ∀ vs H Q E, sp' vs H Q E → sp vs H Q E) : FnOk P w K mg base CX k f fd ps sp' :=
  ⟨fun vs H Q E z => F.len vs H Q E (h vs H Q E z), fun A outer s H args us vs Q E hr he hb hv hs => F.run A outer s H args us vs Q E hr he hb hv (h vs H Q E hs)⟩
theorem ints_lay : ∀ ns : List Int, PyData.canLayAll0 (ns.map PyData.int) = true
  | [] => by simp [PyData.canLayAll0]
  | n :: r => by simp [PyData.canLayAll0, PyData.canLay0, ints_lay r]
theorem ints_depth : ∀ ns : List Int, PyData.depthAll (ns.map PyData.int) = 0
  | [] => by simp [PyData.depthAll]
  | n :: r => by simp [PyData.depthAll, PyData.depth, ints_depth r]
theorem ints_shaped (ns : List Int) : SeqAt.shaped (.list (ns.map PyData.int)) = true := by
  unfold SeqAt.shaped
  have h1 : (PyData.list (ns.map PyData.int)).canLay0 = true := by
    simp only [PyData.canLay0]
    exact ints_lay ns
  have h2 : (PyData.list (ns.map PyData.int)).depth ≤ 64 := by
    simp only [PyData.depth]
    rw [ints_depth]
    omega
  rw [h1, decide_eq_true h2]
  rfl
theorem ints_dp {K : PySem.W.Frag} {H : Hp} : ∀ ns : List Int, DpAll K H (ns.map V.int) (ns.map PyData.int)
  | [] => .nil
  | n :: r => .cons (.int n) (ints_dp r)
theorem ints_nil (ns : List Int) : PyData.eqv (.list (ns.map PyData.int)) (.list []) = ns.isEmpty := by
  cases ns with
  | nil => decide +kernel
  | cons n r => simp [PyData.eqv, PyData.eqvAll]
theorem cutTail {n : Int} {ns : List Int} : cutV ((n :: ns).map V.int) (some 1) none = ns.map V.int := by
  unfold cutV
  rw [show HT.sIx ((n :: ns).map V.int).length 0 (some 1) = min 1 ((n :: ns).map V.int).length from HT.sIx_nat _ _ 1, HT.sIx_none]
  have e : min 1 ((n :: ns).map V.int).length = 1 := by
    rw [List.length_map, List.length_cons]
    omega
  rw [e]
  show List.take (((n :: ns).map V.int).length - 1) (ns.map V.int) = _
  exact List.take_of_length_le (by rw [List.length_map, List.length_map, List.length_cons]; omega)

theorem kp_new {w : Addr} {H : Hp} {p : Addr} {o : HO} (h : H p = none) : Kp (At w) H (upd H p o) := Kp.new h
theorem ok_pickL {f : Addr} {fd : FuncData} (F : Fun K "_law_pick" "_law_pick" s_law_pick f fd) (M : Mb mg) : FnOk P w K mg base CX0 1 f fd ["well", "limit"] spPickL := by
  refine F.ok c_law_pick (fun vs H Q E h => ?_) (fun cdv A outer s H vs Q E hr h => ?_)
  · obtain ⟨w, l, limit, rfl, _⟩ := h
    rfl
  · obtain ⟨w, l, limit, rfl, hl, hl2, ⟨st, n, ns, hw, hne, hL, hlen⟩, q⟩ := h
    have hu : (A.deeper (envOfC "_law_pick" (defScope s_law_pick) s.heap.objs.size f cdv)).units + 64 < cLine := hr.units
    refine ⟨_, (pss_cons (ps_if (pt_cmpR (op_neD hu) (pe_ix ix_list (pv 0) pe_int (fun _ _ => rfl)) (pe_lst pa_nil) (nomark _))
 (pss_cons (ps_asg (pe_callB call_divmodW (by rfl) M.divmod (by decide +kernel) (pa_cons (pe_ix ix_list (pe_ix ix_list (pv 0) pe_int (fun _ _ => rfl)) pe_int (fun _ _ => rfl)) (pa_cons (pv 1) pa_nil))) (pg_tup rfl (pgs_cons (pg_name (i := 2) c_law_pick.nd rfl (.inl rfl)) (pgs_cons (pg_name (i := 3) c_law_pick.nd rfl (.inl rfl)) pgs_nil))))
 (pss_cons (ps_asg (pe_op op_cat (pe_ifExp (pt_cmpR op_gt (pv 2) pe_int (nomark _)) (pe_lst (pa_cons (pv 2) pa_nil)) (pe_lst pa_nil)) (pe_slice sl_list (pe_ix ix_list (pv 0) pe_int (fun _ _ => rfl)) (po_some pe_int) po_none)) (pg_sub (pv 0) pe_int set_list))
 (pss_one (ps_ret (pv 3)))))
 pss_nil)
 (pss_cons (ps_asg (pe_op op_add (pe_ix ix_list (pv 0) pe_int (fun _ _ => rfl)) pe_int) (pg_sub (pv 0) pe_int set_list))
 (pss_cons (ps_asg (pe_op op_mod (pe_callTy call_int1 (by rfl) M.int (by decide +kernel) (pa_cons (pe_op op_add (pe_op op_add (pe_op op_mul (pe_ix ix_list (pv 0) pe_int (fun _ _ => rfl)) pe_int) (pe_op op_mul pe_int (pe_ix ix_list (pv 0) pe_int (fun _ _ => rfl)))) pe_int) pa_nil)) pe_int) (pg_sub (pv 0) pe_int set_list))
 (pss_one (ps_ret (pe_op op_mod (pe_callTy call_int1 (by rfl) M.int (by decide +kernel) (pa_cons (pe_op op_fdiv (pe_ix ix_list (pv 0) pe_int (fun _ _ => rfl)) pe_int) pa_nil)) (pv 1))))))), ?_⟩
    have a0 : ∀ {x y z : V}, atI [x, y, z] 0 = some x := fun {x y z} => rfl
    have a1 : ∀ {x y z : V}, atI [x, y, z] 1 = some y := fun {x y z} => rfl
    have a2 : ∀ {x y z : V}, atI [x, y, z] 2 = some z := fun {x y z} => rfl
    -- if well[0] != []
    refine ⟨_, rfl, w, _, 0, .ref l, rfl, rfl, .inl (.inl hw), a0, ?_⟩
    refine ⟨Nat.zero_le _, fun e ne => ?_⟩
    have hL1 : (upd H e (.lst [])) l = some (.lst (ns.map V.int)) := by
      rw [upd_ne (ne_of_none hL ne)]
      exact hL
    have hw1 : (upd H e (.lst [])) w = some (.lst [.ref l, .int st, .int n]) := by
      rw [upd_ne (ne_of_none hw ne)]
      exact hw
    have k1 : Kp (At w) H (upd H e (.lst [])) := kp_new ne
    refine ⟨.list (ns.map PyData.int), .list [], .lst (.inl (.inl hL1)) (ints_dp ns), .lst (.inl (.inl upd_same)) .nil, ints_shaped ns, ints_shaped [], _, rfl, ?_⟩
    rw [ints_nil]
    generalize upd H e (.lst []) = H1 at hL1 hw1 k1
    cases ns with
    | cons x r =>
      refine iteT ?_
      -- rest, digit = divmod(well[0][0], limit)
      refine ⟨_, rfl, w, _, 0, .ref l, rfl, rfl, .inl (.inl hw1), a0, l, _, 0, .int x, rfl, rfl, .inl (.inl hL1), atI_nat (j := 0) rfl, ?_⟩
      refine ⟨_, rfl, x, limit, rfl, ⟨hl, PyProof.noPylong_small (by omega)⟩, fun p np => ?_⟩
      have hL2 : (upd H1 p (.tup [.int (x / limit), .int (x % limit)])) l = some (.lst ((x :: r).map V.int)) := by
        rw [upd_ne (ne_of_none hL1 np)]
        exact hL1
      have hw2 : (upd H1 p (.tup [.int (x / limit), .int (x % limit)])) w = some (.lst [.ref l, .int st, .int n]) := by
        rw [upd_ne (ne_of_none hw1 np)]
        exact hw1
      have k2 : Kp (At w) H (upd H1 p (.tup [.int (x / limit), .int (x % limit)])) := k1.trans (kp_new np)
      refine ⟨p, _, rfl, .inl (.inl upd_same), rfl, _, _, rfl, _, _, rfl, rfl, ?_⟩
      generalize upd H1 p (.tup [.int (x / limit), .int (x % limit)]) = H2 at hL2 hw2 k2
      -- well[0] = ([rest] if rest > 0 else []) + well[0][1:]
      have tail : ∀ (ms : List Int) (b : Addr) (H3 : Hp), ms.length ≤ 1 → H3 b = some (.lst (ms.map V.int)) → H3 l = some (.lst ((x :: r).map V.int)) → H3 w = some (.lst [.ref l, .int st, .int n]) →
          Kp (At w) H H3 → ∃ v, ([some (.ref w), some (.int limit), some (.int (x / limit)), some (.int (x % limit))] : List (Option V))[0]? = some (some v) ∧
            rIxL K v (.int 0) H3 fun x1 H4 => tPart (tC (.int 1)) [some (.ref w), some (.int limit), some (.int (x / limit)), some (.int (x % limit))] H4 fun lo H5 =>
              tNoPart [some (.ref w), some (.int limit), some (.int (x / limit)), some (.int (x % limit))] H5 fun hi H6 =>
                rSlL K x1 lo hi H6 fun y H7 => rCat (.ref b) y H7 fun z H8 => gSub (tVar 0) (tC (.int 0)) rSetL z [some (.ref w), some (.int limit), some (.int (x / limit)), some (.int (x % limit))] H8 fun σ' H9 => ∃ v, σ'[3]? = some (some v) ∧ Q v H9 := by
        intro ms b H3 hms hb hL3 hw3 k3
        refine ⟨_, rfl, w, _, 0, .ref l, rfl, rfl, .inl (.inl hw3), a0, 1, rfl, l, _, rfl, .inl (.inl hL3), fun c nc => ?_⟩
        rw [cutTail]
        have hb4 : (upd H3 c (.lst (r.map V.int))) b = some (.lst (ms.map V.int)) := by
          rw [upd_ne (ne_of_none hb nc)]
          exact hb
        have hw4 : (upd H3 c (.lst (r.map V.int))) w = some (.lst [.ref l, .int st, .int n]) := by
          rw [upd_ne (ne_of_none hw3 nc)]
          exact hw3
        have k4 : Kp (At w) H (upd H3 c (.lst (r.map V.int))) := k3.trans (kp_new nc)
        rw [List.length_cons] at hlen
        refine ⟨b, c, _, _, rfl, rfl, hb4, upd_same, sz63 (by rw [List.length_map, List.length_map]; omega), fun m nm => ?_⟩
        have hw5 : (upd (upd H3 c (.lst (r.map V.int))) m (.lst (ms.map V.int ++ r.map V.int))) w = some (.lst [.ref l, .int st, .int n]) := by
          rw [upd_ne (ne_of_none hw4 nm)]
          exact hw4
        have hmw : m ≠ w := fun z => by
          rw [z, hw4] at nm
          cases nm
        refine ⟨_, rfl, w, _, 0, 0, rfl, rfl, hw5, rfl, _, rfl, ?_⟩
        refine q _ _ m (Int.emod_nonneg _ (by omega)) (Int.emod_lt_of_pos _ hl) ((k4.trans (kp_new nm)).trans (Kp.mut rfl)) ⟨st, n, ms ++ r, upd_same, hmw, ?_, ?_⟩ (.inr (kp_free k4 nm hmw))
        · rw [upd_ne hmw, upd_same, List.map_append]
        · rw [List.length_append]
          omega
      refine ⟨_, rfl, _, _, rfl, rfl, _, rfl, ite2 (fun _ => ?_) (fun _ => ?_)⟩
      · refine ⟨_, rfl, sz63 (by show 1 ≤ 1000; decide), fun b nb => ?_⟩
        exact tail [x / limit] b _ (Nat.le_refl _) upd_same (by rw [upd_ne (ne_of_none hL2 nb)]; exact hL2) (by rw [upd_ne (ne_of_none hw2 nb)]; exact hw2) (k2.trans (kp_new nb))
      · refine ⟨Nat.zero_le _, fun b nb => ?_⟩
        exact tail [] b _ (Nat.zero_le _) upd_same (by rw [upd_ne (ne_of_none hL2 nb)]; exact hL2) (by rw [upd_ne (ne_of_none hw2 nb)]; exact hw2) (k2.trans (kp_new nb))
    | nil =>
      refine iteF ?_
      -- well[2] = well[2] + 1
      refine ⟨_, rfl, w, _, 2, .int n, rfl, rfl, .inl (.inl hw1), a2, _, _, rfl, rfl, _, rfl, w, _, 2, 2, rfl, rfl, hw1, rfl, ?_⟩
      -- well[1] = ..
      refine ⟨_, rfl, w, _, 1, .int st, rfl, rfl, .inl (.inl upd_same), a1, _, _, rfl, rfl, .inr ⟨by decide, by decide⟩, ?_⟩
      refine ⟨_, rfl, w, _, 2, .int (n + 1), rfl, rfl, .inl (.inl upd_same), a2, _, _, rfl, rfl, .inl ⟨by decide, by decide⟩, ?_⟩
      refine ⟨_, _, rfl, rfl, _, _, rfl, rfl, .inl ⟨_, rfl, ?_⟩⟩
      refine ⟨_, _, rfl, rfl, (by show (0 : Int) < 2147483647; decide), _, rfl, w, _, 1, 1, rfl, rfl, upd_same, rfl, ?_⟩
      -- return int(well[1] // 1009) % limit
      refine ⟨_, rfl, w, _, 1, _, rfl, rfl, .inl (.inl upd_same), a1, _, _, rfl, rfl, ⟨by decide, by decide⟩, .inl ⟨_, rfl, ?_⟩⟩
      refine ⟨_, rfl, _, _, rfl, rfl, hl, ?_⟩
      refine q _ _ l (Int.emod_nonneg _ (by omega)) (Int.emod_lt_of_pos _ hl) ((k1.trans (Kp.mut rfl)).trans (Kp.mut rfl)) ⟨_, _, [], upd_same, hne, ?_, Nat.zero_le _⟩ (.inl rfl)
      rw [upd_ne hne, upd_ne hne]
      exact hL1

theorem ok_pick {f : Addr} {fd : FuncData} (F : Fun K "_law_pick" "_law_pick" s_law_pick f fd) (M : Mb mg) : FnOk P w K mg base CX0 1 f fd ["well", "limit"] spPick :=
  weaken (ok_pickL F M) fun vs H Q E ⟨w, limit, h1, h2, h3, ⟨l, hl⟩, q⟩ => ⟨w, l, limit, h1, h2, h3, hl, fun H' d l' d0 d1 k W _ => q H' d d0 d1 k ⟨l', W⟩⟩
/-! ### one of some -/
def spOfL (K : PySem.W.Frag) : Sp := fun vs H Q _ => ∃ (w l a : Addr) (xs : List V), vs = [.ref w, .ref a] ∧ WellAt w l H ∧ a ≠ w ∧ (SqL K H a xs ∨ SqT K H a xs) ∧ 0 < xs.length ∧ xs.length < 1073741824 ∧
  ∀ (H' : Hp) (i : Nat) (v : V) (l' : Addr), xs[i]? = some v → Kp (At w) H H' → WellAt w l' H' → (l' = l ∨ H l' = none) → Q v H'
def spOf (K : PySem.W.Frag) : Sp := fun vs H Q _ => ∃ (w a : Addr) (xs : List V), vs = [.ref w, .ref a] ∧ IsWell w H ∧ a ≠ w ∧ (SqL K H a xs ∨ SqT K H a xs) ∧ 0 < xs.length ∧ xs.length < 1073741824 ∧
  ∀ (H' : Hp) (i : Nat) (v : V), xs[i]? = some v → Kp (At w) H H' → IsWell w H' → Q v H'
theorem kp_l {w a : Addr} {H H' : Hp} {xs : List V} (k : Kp (At w) H H') (h : a ≠ w) (s : SqL K H a xs) : SqL K H' a xs := by
  rcases s with (e | ⟨o, e⟩) | e
  · exact .inl (.inl (k _ _ h e))
  · exact .inl (.inr ⟨o, k _ _ h e⟩)
  · exact .inr e
theorem kp_t {w a : Addr} {H H' : Hp} {xs : List V} (k : Kp (At w) H H') (h : a ≠ w) (s : SqT K H a xs) : SqT K H' a xs := by
  rcases s with (e | ⟨o, e⟩) | e
  · exact .inl (.inl (k _ _ h e))
  · exact .inl (.inr ⟨o, k _ _ h e⟩)
  · exact .inr e
theorem ok_ofL {f : Addr} {fd : FuncData} (F : Fun K "_law_of" "_law_of" s_law_of f fd) (M : Mb mg) (Dlaw_pick : Df P w K mg base 1 "_law_pick" ["well", "limit"] spPickL) :
    FnOk P w K mg base CX0 2 f fd ["well", "some"] (spOfL K) := by
  refine F.ok c_law_of (fun vs H Q E h => ?_) (fun cdv A outer s H vs Q E hr h => ?_)
  · obtain ⟨w, l, a, xs, rfl, _⟩ := h
    rfl
  · obtain ⟨w, l, a, xs, rfl, hW, ne, hx, h0, h1, q⟩ := h
    refine ⟨_, (pss_one (ps_ret (pe_ix ix_seq (pv 1) (pe_call Dlaw_pick.G (hr.mono (by first | decide | omega)) rfl Dlaw_pick.g Dlaw_pick.kp Dlaw_pick.b .nil pass0 (pa_cons (pv 0) (pa_cons (pe_callB call_len_seq (by rfl) M.len (by decide +kernel) (pa_cons (pv 1) pa_nil)) pa_nil))) (fun _ _ => rfl)))), ?_⟩
    refine ⟨_, rfl, _, rfl, _, rfl, a, xs, rfl, hx, w, l, _, rfl, by omega, by omega, hW, fun H' d l' d0 d1 k hW' hl' => ?_⟩
    obtain ⟨j, rfl⟩ : ∃ j : Nat, d = (j : Int) := ⟨d.toNat, by omega⟩
    have hd : j < xs.length := by omega
    have get : xs[j]? = some xs[j] := by simp [hd]
    have hat : atI xs (j : Int) = some xs[j] := atI_nat get
    rcases hx with hx | hx
    · exact .inl ⟨a, xs, _, _, rfl, rfl, kp_l k ne hx, hat, q H' _ _ l' get k hW' hl'⟩
    · exact .inr (.inl ⟨a, xs, _, _, rfl, rfl, kp_t k ne hx, hat, q H' _ _ l' get k hW' hl'⟩)
theorem ok_of {f : Addr} {fd : FuncData} (F : Fun K "_law_of" "_law_of" s_law_of f fd) (M : Mb mg) (Dlaw_pick : Df P w K mg base 1 "_law_pick" ["well", "limit"] spPickL) :
    FnOk P w K mg base CX0 2 f fd ["well", "some"] (spOf K) :=
  weaken (ok_ofL F M Dlaw_pick) fun vs H Q E ⟨w, a, xs, h1, ⟨l, hl⟩, h3, h4, h5, h6, q⟩ => ⟨w, l, a, xs, h1, hl, h3, h4, h5, h6, fun H' i v l' e k W _ => q H' i v e k ⟨l', W⟩⟩
end
end Kx
/-! The program's exact numbers and what is a walk. -/
namespace Kx
open PySem PySem.Spec PyProof.Rows L2 Bw

/-- the program's constants -/
structure Mp (K : PySem.W.Frag) (mg : Str → Option Value) where
  gcd : mg "gcd" = some (.builtin "math.gcd")
  nilA : Addr
  nil : mg "NIL" = some (.ref nilA)
  nilT : ∀ H, SqT K H nilA [.int 0, .int 1]
  oneA : Addr
  one : mg "ONE" = some (.ref oneA)
  oneT : ∀ H, SqT K H oneA [.int 1, .int 1]
  tk : Tok
  most : mg "MOST_PLACES" = some (.int 6 tk)

abbrev sis_whole : Stmt := topS 8
abbrev nis_whole : List Str := ["value"]
theorem cis_whole : FnScope nis_whole ["value"] (defScope sis_whole) :=
  ⟨rfl, rfl, rfl, by decide +kernel, rfl, by decide +kernel, by decide +kernel⟩

abbrev sis_fraction : Stmt := topS 10
abbrev nis_fraction : List Str := ["value", "top", "bottom"]
theorem cis_fraction : FnScope nis_fraction ["value"] (defScope sis_fraction) :=
  ⟨rfl, rfl, rfl, by decide +kernel, rfl, by decide +kernel, by decide +kernel⟩

abbrev sis_from_nil : Stmt := topS 11
abbrev nis_from_nil : List Str := ["value"]
theorem cis_from_nil : FnScope nis_from_nil ["value"] (defScope sis_from_nil) :=
  ⟨rfl, rfl, rfl, by decide +kernel, rfl, by decide +kernel, by decide +kernel⟩

abbrev slowest : Stmt := topS 12
abbrev nlowest : List Str := ["top", "bottom", "shared"]
theorem clowest : FnScope nlowest ["top", "bottom"] (defScope slowest) :=
  ⟨rfl, rfl, rfl, by decide +kernel, rfl, by decide +kernel, by decide +kernel⟩

abbrev splus : Stmt := topS 13
abbrev nplus : List Str := ["one", "other"]
theorem cplus : FnScope nplus ["one", "other"] (defScope splus) :=
  ⟨rfl, rfl, rfl, by decide +kernel, rfl, by decide +kernel, by decide +kernel⟩

abbrev stotal : Stmt := topS 14
abbrev ntotal : List Str := ["fractions", "result", "fraction"]
theorem ctotal : FnScope ntotal ["fractions"] (defScope stotal) :=
  ⟨rfl, rfl, rfl, by decide +kernel, rfl, by decide +kernel, by decide +kernel⟩

abbrev sis_table_row : Stmt := topS 18
abbrev nis_table_row : List Str := ["value", "many", "number"]
theorem cis_table_row : FnScope nis_table_row ["value", "many"] (defScope sis_table_row) :=
  ⟨rfl, rfl, rfl, by decide +kernel, rfl, by decide +kernel, by decide +kernel⟩

abbrev sis_table : Stmt := topS 19
abbrev nis_table : List Str := ["value", "row"]
theorem cis_table : FnScope nis_table ["value"] (defScope sis_table) :=
  ⟨rfl, rfl, rfl, by decide +kernel, rfl, by decide +kernel, by decide +kernel⟩

abbrev sleads_to_all : Stmt := topS 20
abbrev nleads_to_all : List Str := ["links", "found", "waiting", "here", "there", "link"]
theorem cleads_to_all : FnScope nleads_to_all ["links"] (defScope sleads_to_all) :=
  ⟨rfl, rfl, rfl, by decide +kernel, rfl, by decide +kernel, by decide +kernel⟩

abbrev sis_whole_table : Stmt := topS 21
abbrev nis_whole_table : List Str := ["table", "links", "row", "number", "turned", "column"]
theorem cis_whole_table : FnScope nis_whole_table ["table"] (defScope sis_whole_table) :=
  ⟨rfl, rfl, rfl, by decide +kernel, rfl, by decide +kernel, by decide +kernel⟩

abbrev sis_walk : Stmt := topS 22
abbrev nis_walk : List Str := ["value", "row"]
theorem cis_walk : FnScope nis_walk ["value"] (defScope sis_walk) :=
  ⟨rfl, rfl, rfl, by decide +kernel, rfl, by decide +kernel, by decide +kernel⟩



section
variable {P : Program} {w : World} {K : PySem.W.Frag} {mg : Str → Option Value} {base : Heap}

/-- a question about any value, the heap as it was -/
def spAsk (b : PyData → Bool) : Sp := fun vs H Q _ => ∃ (W : Addr → Prop) (v : V) (d : PyData), vs = [v] ∧ Dq W H v d ∧ Q (.bl (b d)) H
theorem ok_is_whole {f : Addr} {fd : FuncData} (F : Fun K "is_whole" "is_whole" sis_whole f fd) (M : Mb mg) : FnOk P w K mg base CX0 1 f fd ["value"] (spAsk isNum) := by
  refine F.ok cis_whole (fun vs H Q E h => ?_) (fun cdv A outer s H vs Q E hr h => ?_)
  · obtain ⟨_, v, d, rfl, _⟩ := h
    rfl
  · obtain ⟨W, v, d, rfl, hd, q⟩ := h
    refine ⟨_, (pss_one (ps_ret (pe_and (pe_callB call_isD (by rfl) M.isinstance (by decide +kernel) (pa_cons (pv 0) (pa_cons (pe_bltn (v := .ty "int") rfl M.int (by decide +kernel) rfl) pa_nil))) (pe_one (pe_not (pe_callB call_isD (by rfl) M.isinstance (by decide +kernel) (pa_cons (pv 0) (pa_cons (pe_bltn (v := .ty "bool") rfl M.bool (by decide +kernel) rfl) pa_nil)))))))), ?_⟩
    refine ⟨_, rfl, W, v, d, "int", _, rfl, hd, kit_int d, _, rfl, ?_⟩
    cases d with
    | int i => exact ifT rfl ⟨_, rfl, W, v, _, "bool", _, rfl, hd, kit_bool _, _, rfl, q⟩
    | bool b => exact ifT rfl ⟨_, rfl, W, v, _, "bool", _, rfl, hd, kit_bool _, _, rfl, q⟩
    | _ => exact ifF (fun z => nomatch z) q
theorem ok_is_fraction {f : Addr} {fd : FuncData} (F : Fun K "is_fraction" "is_fraction" sis_fraction f fd) (M : Mb mg) (Z : Mp K mg) (Dis_whole : Df P w K mg base 1 "is_whole" ["value"] (spAsk isNum)) :
    FnOk P w K mg base CX0 2 f fd ["value"] (spAsk isFr) := by
  refine F.ok cis_fraction (fun vs H Q E h => ?_) (fun cdv A outer s H vs Q E hr h => ?_)
  · obtain ⟨_, v, d, rfl, _⟩ := h
    rfl
  · obtain ⟨W, v, d, rfl, hd, q⟩ := h
    refine ⟨_, (pss_cons (ps_if (PW.pt (pw_or (pt_not (pt_val (pe_callB call_isD (by rfl) M.isinstance (by decide +kernel) (pa_cons (pv 0) (pa_cons (pe_bltn (v := .ty "tuple") rfl M.tuple (by decide +kernel) rfl) pa_nil))))) (pw_or1 (pt_cmpR op_ne (pe_callB call_len_seq (by rfl) M.len (by decide +kernel) (pa_cons (pv 0) pa_nil)) pe_int (nomark _)))))
 (pss_one (ps_ret pe_bl))
 pss_nil)
 (pss_cons (ps_asg (pv 0) (pg_tup rfl (pgs_cons (pg_name (i := 1) cis_fraction.nd rfl (.inl rfl)) (pgs_cons (pg_name (i := 2) cis_fraction.nd rfl (.inl rfl)) pgs_nil))))
 (pss_one (ps_ret (pe_and (pe_call Dis_whole.G (hr.mono (by first | decide | omega)) rfl Dis_whole.g Dis_whole.kp Dis_whole.b .nil pass0 (pa_cons (pv 1) pa_nil)) (pe_and (pe_call Dis_whole.G (hr.mono (by first | decide | omega)) rfl Dis_whole.g Dis_whole.kp Dis_whole.b .nil pass0 (pa_cons (pv 2) pa_nil)) (pe_and (pe_cmpR op_gt (pv 2) pe_int (nomark _)) (pe_one (pe_cmpR op_eq (pe_callBfun cr_gcd (by rfl) Z.gcd (pa_cons (pv 1) (pa_cons (pv 2) pa_nil))) pe_int (nomark _)))))))))), ?_⟩
    refine ⟨_, rfl, W, v, d, "tuple", _, rfl, hd, kit_tup d, _, rfl, ?_⟩
    cases hd with
    | tup na ea el =>
      rename_i a xs ds
      refine iteF ⟨_, rfl, a, xs, rfl, .inr (.of ea), rfl, _, rfl, ite2 (fun hn => ?_) (fun hn => ?_)⟩
      · have hl : ds.length ≠ 2 := fun z => by
          have := el.length
          simp at hn
          omega
        have e : isFr (.tuple ds) = false := by
          unfold isFr
          split
          · rename_i z
            cases z
            simp at hl
          · rfl
        rw [e] at q
        exact q
      · have hl : xs.length = 2 := by
          simp at hn
          omega
        match xs, ds, el, hl with
        | [x, y], [d1, d2], .cons h1 (.cons h2 .nil), _ =>
          refine ⟨_, rfl, a, [x, y], rfl, .of ea, rfl, x, [y], rfl, y, [], rfl, rfl, ?_⟩
          refine ⟨_, rfl, W, x, d1, rfl, h1, _, rfl, ?_⟩
          cases h1 with
          | int i =>
            refine iteT ⟨_, rfl, W, y, d2, rfl, h2, _, rfl, ?_⟩
            cases h2 with
            | int j =>
              refine iteT ⟨_, rfl, j, 0, rfl, rfl, _, rfl, ite2 (fun hb => ?_) (fun hb => ?_)⟩
              · refine ⟨_, rfl, _, rfl, i, j, rfl, rfl, ?_⟩
                have e : isFr (.tuple [.int i, .int j]) = decide (V.int ((Nat.gcd i.natAbs j.natAbs : Nat) : Int) = V.int 1) := by
                  show (decide (0 < j) && decide (Nat.gcd i.natAbs j.natAbs = 1)) = _
                  rw [hb, Bool.true_and]
                  refine decide_eq_decide.mpr ⟨fun z => by rw [z]; rfl, fun z => ?_⟩
                  have z' := V.int.inj z
                  omega
                rw [e] at q
                exact q
              · have e : isFr (.tuple [.int i, .int j]) = false := by
                  show (decide (0 < j) && decide (Nat.gcd i.natAbs j.natAbs = 1)) = _
                  rw [Bool.eq_false_iff.mpr hb, Bool.false_and]
                rw [e] at q
                exact q
            | _ => exact q
          | _ => exact q
    | _ => exact q
theorem isFr0_of {a b : Int} : isFr0 (.tuple [.int a, .int b]) = (isFr (.tuple [.int a, .int b]) && decide (0 ≤ a)) := rfl
theorem isFr0_no {d : PyData} (h : isFr d = false) : isFr0 d = false := by
  unfold isFr0
  split
  · rename_i a b
    have h' : (decide (0 < b) && decide (Nat.gcd a.natAbs b.natAbs = 1)) = false := h
    rw [h', Bool.false_and]
  · rfl
theorem ok_is_from_nil {f : Addr} {fd : FuncData} (F : Fun K "is_from_nil" "is_from_nil" sis_from_nil f fd) (M : Mb mg) (Dis_fraction : Df P w K mg base 2 "is_fraction" ["value"] (spAsk isFr)) :
    FnOk P w K mg base CX0 3 f fd ["value"] (spAsk isFr0) := by
  refine F.ok cis_from_nil (fun vs H Q E h => ?_) (fun cdv A outer s H vs Q E hr h => ?_)
  · obtain ⟨_, v, d, rfl, _⟩ := h
    rfl
  · obtain ⟨W, v, d, rfl, hd, q⟩ := h
    refine ⟨_, (pss_one (ps_ret (pe_and (pe_call Dis_fraction.G (hr.mono (by first | decide | omega)) rfl Dis_fraction.g Dis_fraction.kp Dis_fraction.b .nil pass0 (pa_cons (pv 0) pa_nil)) (pe_one (pe_cmpR op_ge (pe_ix ix_tup (pv 0) pe_int (fun _ _ => rfl)) pe_int (nomark _)))))), ?_⟩
    refine ⟨_, rfl, W, v, d, rfl, hd, _, rfl, ?_⟩
    cases e : isFr d with
    | false =>
      rw [isFr0_no e] at q
      exact ifF (fun z => nomatch z) q
    | true =>
      obtain ⟨r, rfl⟩ := isFr_iff.mp e
      obtain ⟨a, rfl, _, ea⟩ := hd.frI
      refine ifT rfl ⟨_, rfl, a, _, 0, _, rfl, rfl, .of ea, rfl, _, _, rfl, rfl, ?_⟩
      have e2 : isFr0 (frD r) = decide (0 ≤ r.num) := by
        show (isFr (frD r) && _) = _
        rw [e, Bool.true_and]
      rw [e2] at q
      exact q

/-- two whole numbers brought to lowest terms -/
def spLowest : Sp := fun vs H Q _ => ∃ (a b : Int) (n : Nat), vs = [.int a, .int b] ∧ 0 < b ∧ b.natAbs < 2 ^ n ∧ n ≤ 9000 ∧
  ∀ p, H p = none → Q (.ref p) (upd H p (.tup [.int (Rat.divInt a b).num, .int (Rat.divInt a b).den]))
theorem ok_lowest {f : Addr} {fd : FuncData} (F : Fun K "lowest" "lowest" slowest f fd) (M : Mb mg) (Z : Mp K mg) : FnOk P w K mg base CX0 1 f fd ["top", "bottom"] spLowest := by
  refine F.ok clowest (fun vs H Q E h => ?_) (fun cdv A outer s H vs Q E hr h => ?_)
  · obtain ⟨a, b, n, rfl, _⟩ := h
    rfl
  · obtain ⟨a, b, n, rfl, hb, hn, h9, q⟩ := h
    refine ⟨_, (pss_cons (ps_set (i := 2) clowest.nd rfl (.inl rfl) (pe_callBfun cr_gcd (by rfl) Z.gcd (pa_cons (pv 0) (pa_cons (pv 1) pa_nil))))
 (pss_cons (ps_if (pt_cmpR op_lt (pv 1) pe_int (nomark _))
 (pss_one (ps_set (i := 2) clowest.nd rfl (.inl rfl) (pe_un un_neg (pv 2))))
 pss_nil)
 (pss_one (ps_ret (pe_tup (pa_cons (pe_op op_fdivW (pv 0) (pv 2)) (pa_cons (pe_op op_fdivW (pv 1) (pv 2)) pa_nil))))))), ?_⟩
    have hg : 0 < Nat.gcd a.natAbs b.natAbs := Nat.gcd_pos_of_pos_right _ (by omega)
    have hg2 : Nat.gcd a.natAbs b.natAbs ≤ b.natAbs := Nat.gcd_le_right _ (by omega)
    have hn0 : 0 < n := by
      cases n with
      | zero => omega
      | succ n => omega
    have cd : CDivW a ((Nat.gcd a.natAbs b.natAbs : Nat) : Int) := wide_div (b := n) (by omega) (by omega) hn0 h9
    refine ⟨_, rfl, _, rfl, a, b, rfl, _, rfl, _, _, rfl, rfl, _, rfl, ifF (by rw [decide_eq_true_eq]; omega) ?_⟩
    refine ⟨_, rfl, _, rfl, _, _, rfl, rfl, cd, _, rfl, _, rfl, _, _, rfl, rfl, cd, sz63 (by show 2 ≤ 1000; decide), fun p hp => ?_⟩
    have q' := q p hp
    rw [Bq.q_num hb, Bq.q_den hb] at q'
    exact q'
/-- the sum of two fractions -/
def spPlus (K : PySem.W.Frag) : Sp := fun vs H Q _ => ∃ (v u : V) (p q : Rat) (m n : Nat), vs = [v, u] ∧ FrR K H v p ∧ FrR K H u q ∧ Bq.Sz m p ∧ Bq.Sz n q ∧ m + n ≤ 9000 ∧
  ∀ a, H a = none → Q (.ref a) (upd H a (.tup [.int (p + q).num, .int (p + q).den]))
theorem sz_pos {n : Nat} {q : Rat} (h : Bq.Sz n q) : 0 < n := by
  have h1 := Bq.den_pos q
  have h2 := h.2
  cases n with
  | zero => omega
  | succ n => omega
theorem mulW {x y : Int} {m n : Nat} (hx : x.natAbs < 2 ^ m) (hy : y.natAbs < 2 ^ n) (m0 : 0 < m) (n0 : 0 < n) (h : m + n ≤ 9000) : CMulW x y := wide_mul hx hy m0 n0 (by omega)
theorem ok_plus {f : Addr} {fd : FuncData} (F : Fun K "plus" "plus" splus f fd) (M : Mb mg) (Dlowest : Df P w K mg base 1 "lowest" ["top", "bottom"] spLowest) : FnOk P w K mg base CX0 2 f fd ["one", "other"] (spPlus K) := by
  refine F.ok cplus (fun vs H Q E h => ?_) (fun cdv A outer s H vs Q E hr h => ?_)
  · obtain ⟨v, u, p, q, m, n, rfl, _⟩ := h
    rfl
  · obtain ⟨v, u, p, r, m, n, rfl, ⟨a, rfl, ha⟩, ⟨b, rfl, hb⟩, sp, sr, hmn, q⟩ := h
    refine ⟨_, (pss_one (ps_ret (pe_call Dlowest.G (hr.mono (by first | decide | omega)) rfl Dlowest.g Dlowest.kp Dlowest.b .nil pass0 (pa_cons (pe_op op_add (pe_op op_mulW (pe_ix ix_tup (pv 0) pe_int (fun _ _ => rfl)) (pe_ix ix_tup (pv 1) pe_int (fun _ _ => rfl))) (pe_op op_mulW (pe_ix ix_tup (pv 1) pe_int (fun _ _ => rfl)) (pe_ix ix_tup (pv 0) pe_int (fun _ _ => rfl)))) (pa_cons (pe_op op_mulW (pe_ix ix_tup (pv 0) pe_int (fun _ _ => rfl)) (pe_ix ix_tup (pv 1) pe_int (fun _ _ => rfl))) pa_nil))))), ?_⟩
    have m0 := sz_pos sp
    have n0 := sz_pos sr
    refine ⟨_, rfl, a, _, 0, _, rfl, rfl, ha, rfl, _, rfl, b, _, 1, _, rfl, rfl, hb, rfl, _, _, rfl, rfl, mulW sp.1 (Bq.den_abs sr) m0 n0 hmn, ?_⟩
    refine ⟨_, rfl, b, _, 0, _, rfl, rfl, hb, rfl, _, rfl, a, _, 1, _, rfl, rfl, ha, rfl, _, _, rfl, rfl, mulW sr.1 (Bq.den_abs sp) n0 m0 (by omega), ?_⟩
    refine ⟨_, _, rfl, rfl, ?_⟩
    refine ⟨_, rfl, a, _, 1, _, rfl, rfl, ha, rfl, _, rfl, b, _, 1, _, rfl, rfl, hb, rfl, _, _, rfl, rfl, mulW (Bq.den_abs sp) (Bq.den_abs sr) m0 n0 hmn, ?_⟩
    refine ⟨_, _, m + n, rfl, Bq.dens_pos p r, Bq.dens sp sr, hmn, fun x hx => ?_⟩
    have q' := q x hx
    rw [← Bq.q_add] at q'
    exact q'
/-- a row of fractions that is read -/
def FrRow (K : PySem.W.Frag) (H : Hp) (xs : List V) (qs : List Rat) : Prop := xs.length = qs.length ∧ ∀ (i : Nat) v q, xs[i]? = some v → qs[i]? = some q → FrR K H v q
theorem FrRow.same {H H' : Hp} {xs : List V} {qs : List Rat} (s : Same H H') (h : FrRow K H xs qs) : FrRow K H' xs qs := ⟨h.1, fun i v q e1 e2 => (h.2 i v q e1 e2).same s⟩
theorem dq_row {W : Addr → Prop} {H : Hp} : ∀ {xs : List V} {qs : List Rat}, DqAll W H xs (qs.map frD) → FrRow K H xs qs
  | [], [], _ => ⟨rfl, fun i v q e => by simp at e⟩
  | _, [], h => by
    cases h
    exact ⟨rfl, fun i v q e => by simp at e⟩
  | _, q :: qs, h => by
    cases h with
    | cons h t =>
      obtain ⟨l, r⟩ := dq_row t
      refine ⟨congrArg (· + 1) l, fun i v q' e1 e2 => ?_⟩
      cases i with
      | zero =>
        simp at e1 e2
        subst e1 e2
        exact h.fr
      | succ i => exact r i v q' e1 e2
theorem sum_take {qs : List Rat} {i : Nat} {q : Rat} (h : qs[i]? = some q) : Bq.sumQ (qs.take (i + 1)) = Bq.sumQ (qs.take i) + q := by
  rw [List.take_succ, h]
  exact Bq.sum_snoc _ _
theorem sz_take {n : Nat} {qs : List Rat} (h : ∀ q ∈ qs, Bq.Sz n q) : ∀ i, i ≤ qs.length → Bq.Sz (1 + i * (n + 1)) (Bq.sumQ (qs.take i))
  | 0, _ => by
    rw [Nat.zero_mul]
    exact Bq.Sz.zero
  | i + 1, hi => by
    have e : qs[i]? = some qs[i] := List.getElem?_eq_getElem (by omega)
    rw [sum_take e]
    have h1 := sz_take h i (by omega)
    have h2 := h _ (List.mem_of_getElem? e)
    have h3 := h1.add h2
    have e2 : 1 + i * (n + 1) + n + 1 = 1 + (i + 1) * (n + 1) := by
      rw [Nat.succ_mul]
      omega
    rw [e2] at h3
    exact h3
/-- the sum of a row, a tuple -/
def spTotal (K : PySem.W.Frag) : Sp := fun vs H Q _ => ∃ (a : Addr) (xs : List V) (qs : List Rat) (n : Nat), vs = [.ref a] ∧ SqT K H a xs ∧ FrRow K H xs qs ∧ (∀ q ∈ qs, Bq.Sz n q) ∧ 1 + qs.length * (n + 1) ≤ 9000 ∧
  ∀ v H', Same H H' → FrR K H' v (Bq.sumQ qs) → (qs ≠ [] → Dq (Old H) H' v (frD (Bq.sumQ qs))) → Q v H'
theorem ok_total {f : Addr} {fd : FuncData} (F : Fun K "total" "total" stotal f fd) (M : Mb mg) (Z : Mp K mg) (Dplus : Df P w K mg base 2 "plus" ["one", "other"] (spPlus K)) : FnOk P w K mg base CX0 3 f fd ["fractions"] (spTotal K) := by
  refine F.ok ctotal (fun vs H Q E h => ?_) (fun cdv A outer s H vs Q E hr h => ?_)
  · obtain ⟨a, xs, qs, n, rfl, _⟩ := h
    rfl
  · obtain ⟨a, xs, qs, n, rfl, ha, hx, hs, hn, q⟩ := h
    refine ⟨_, (pss_cons (ps_set (i := 1) ctotal.nd rfl (.inl rfl) (pe_glob (v := .ref Z.nilA) rfl Z.nil rfl))
 (pss_cons (ps_for PassesOwn.never rfl (pi_tup (pv 0)) (pg_name (i := 2) ctotal.nd rfl (.inl rfl))
 (pss_one (ps_set (i := 1) ctotal.nd rfl (.inl rfl) (pe_call Dplus.G (hr.mono (by first | decide | omega)) rfl Dplus.g Dplus.kp Dplus.b .nil pass0 (pa_cons (pv 1) (pa_cons (pv 2) pa_nil))))))
 (pss_one (ps_ret (pv 1))))), ?_⟩
    refine ⟨_, rfl, a, rfl, ⟨_, ha⟩, for_tup (K := K) (a := a) (xs := xs)
      (fun i σ H' => ∃ v y, σ = [some (.ref a), some v, y] ∧ Same H H' ∧ FrR K H' v (Bq.sumQ (qs.take i)) ∧ (0 < i → Dq (Old H) H' v (frD (Bq.sumQ (qs.take i)))))
      ⟨_, none, rfl, .refl H, ⟨_, rfl, Z.nilT H⟩, fun z => absurd z (Nat.lt_irrefl _)⟩ (fun i σ H' _ ⟨_, _, _, s, _⟩ => same_tup s ha) ?_ ?_⟩
    · rintro i x σ H1 hi ⟨v, y, rfl, s1, hv, _⟩
      have hl : i < qs.length := by
        rw [← hx.1]
        exact (List.getElem?_eq_some_iff.mp hi).1
      have e : qs[i]? = some qs[i] := List.getElem?_eq_getElem hl
      have hb : i * (n + 1) + (n + 1) ≤ qs.length * (n + 1) := by
        rw [← Nat.succ_mul]
        exact Nat.mul_le_mul_right _ hl
      refine ⟨_, rfl, _, rfl, v, x, _, _, 1 + i * (n + 1), n, rfl, hv, (hx.2 i x _ hi e).same s1, sz_take hs i (by omega), hs _ (List.mem_of_getElem? e), by omega, fun p hp => ?_⟩
      rw [← sum_take e]
      exact ⟨_, _, rfl, s1.trans (same_new hp), ⟨p, rfl, .of upd_same⟩, fun _ => fr_dq (fun z => z (s1.free hp)) upd_same⟩
    · rintro σ H1 ⟨v, y, rfl, s1, hv, hd⟩
      rw [hx.1, List.take_length] at hv hd
      refine ⟨_, rfl, q v H1 s1 hv fun z => hd ?_⟩
      cases qs with
      | nil => exact absurd rfl z
      | cons q r => exact Nat.succ_pos _
abbrev No : Addr → Prop := fun _ => False
theorem no_same {H H' : Hp} (k : Kp No H H') : Same H H' := fun a o e => k a o id e
/-- is it a row of k fractions from 0 on -/
def spTRow : Sp := fun vs H Q _ => ∃ (W : Addr → Prop) (v : V) (d : PyData) (k : Nat), vs = [v, .int k] ∧ Dq W H v d ∧ k ≤ 1000 ∧ ∀ H', Same H H' → Q (.bl (isRow k d)) H'
theorem ok_is_table_row {f : Addr} {fd : FuncData} (F : Fun K "is_table_row" "is_table_row" sis_table_row f fd) (M : Mb mg) (Dis_from_nil : Df P w K mg base 3 "is_from_nil" ["value"] (spAsk isFr0)) :
    FnOk P w K mg base CX0 4 f fd ["value", "many"] spTRow := by
  refine F.ok cis_table_row (fun vs H Q E h => ?_) (fun cdv A outer s H vs Q E hr h => ?_)
  · obtain ⟨_, v, d, k, rfl, _⟩ := h
    rfl
  · obtain ⟨W, v, d, k, rfl, hd, hk, q⟩ := h
    refine ⟨_, (pss_one (ps_ret (pe_and (pe_callB call_isD (by rfl) M.isinstance (by decide +kernel) (pa_cons (pv 0) (pa_cons (pe_bltn (v := .ty "tuple") rfl M.tuple (by decide +kernel) rfl) pa_nil))) (pe_and (pe_cmpR op_eq (pe_callB call_len_seq (by rfl) M.len (by decide +kernel) (pa_cons (pv 0) pa_nil)) (pv 1) (nomark _)) (pe_one (pe_callB (cr_all rfl) (by rfl) M.all (by decide +kernel) (pa_cons (pe_lc (own := [("number", 2)]) rfl cis_table_row.nd (pi_tup (pv 0)) (blkOk_by (own := [("number", 2)]) (N := nis_table_row) (sc := defScope sis_table_row) (by decide +kernel)) (fun _ _ _ _ _ => (pg_name (i := 2) cis_table_row.nd rfl (.inl rfl))) (fun _ _ _ _ _ => pts_nil) (fun _ _ _ _ _ => (pe_call Dis_from_nil.G (hr.mono (by first | decide | omega)) rfl Dis_from_nil.g Dis_from_nil.kp Dis_from_nil.b .nil pass0 (pa_cons (pv 2) pa_nil)))) pa_nil))))))), ?_⟩
    refine ⟨_, rfl, W, v, d, "tuple", _, rfl, hd, kit_tup d, _, rfl, ?_⟩
    cases hd with
    | tup na ea el =>
      rename_i a xs ds
      have hl := el.length
      refine ifT rfl ⟨_, rfl, a, xs, rfl, .inr (.of ea), _, rfl, rfl, _, rfl, ite2 (fun hn => ?_) (fun hn => ?_)⟩
      · have hn' : xs.length = k := by
          have h1 := of_decide_eq_true hn
          have h2 := V.int.inj h1
          omega
        refine ⟨_, rfl, a, rfl, ⟨xs, .of ea⟩, fun D nD => lc_rel (walk_tup (K := K) (a := a) (xs := xs)) No (fun H i y => ∃ b, y = .bl b ∧ (ds.map isFr0)[i]? = some b) (fun _ _ _ _ _ r => r) nD (fun _ z => z.elim) (by omega)
          (fun H' k' => .of (k' _ _ id ea)) ?_ ?_⟩
        · rintro i x H1 _ Q' hi k1 _ ⟨rfl, hx⟩ q'
          obtain ⟨d, hd, dx⟩ := el.at hx
          exact ⟨rfl, _, rfl, W, x, d, rfl, dx.keep (Kp.same (no_same k1)), q' _ _ (.refl _) ⟨_, rfl, by rw [List.getElem?_map, hd]; rfl⟩⟩
        · rintro H1 acc k1 eD hla ha
          refine ⟨D, ds.map isFr0, rfl, .of ?_, ?_⟩
          · rw [eD, bls_of (by rw [hla, List.length_map, hl]) ha]
          · have e : isRow k (.tuple ds) = (ds.map isFr0).all id := by
              show (decide (ds.length = k) && ds.all isFr0) = _
              rw [decide_eq_true (by omega), Bool.true_and, List.all_map]
              rfl
            rw [e] at q
            exact q H1 (no_same k1)
      · have e : isRow k (.tuple ds) = false := by
          show (decide (ds.length = k) && ds.all isFr0) = _
          rw [decide_eq_false, Bool.false_and]
          intro z
          apply hn
          rw [hl, z]
          exact decide_eq_true rfl
        rw [e] at q
        exact q H (.refl H)
    | _ => exact ifF (fun z => nomatch z) (q H (.refl H))
/-- a question about any value -/
def spAskN (b : PyData → Bool) : Sp := fun vs H Q _ => ∃ (W : Addr → Prop) (v : V) (d : PyData), vs = [v] ∧ Dq W H v d ∧ ∀ H', Same H H' → Q (.bl (b d)) H'
theorem ok_is_table {f : Addr} {fd : FuncData} (F : Fun K "is_table" "is_table" sis_table f fd) (M : Mb mg) (Z : Mp K mg) (Dis_table_row : Df P w K mg base 4 "is_table_row" ["value", "many"] spTRow) :
    FnOk P w K mg base CX0 5 f fd ["value"] (spAskN isTable) := by
  refine F.ok cis_table (fun vs H Q E h => ?_) (fun cdv A outer s H vs Q E hr h => ?_)
  · obtain ⟨_, v, d, rfl, _⟩ := h
    rfl
  · obtain ⟨W, v, d, rfl, hd, q⟩ := h
    refine ⟨_, (pss_cons (ps_if (PW.pt (pw_or (pt_not (pt_val (pe_callB call_isD (by rfl) M.isinstance (by decide +kernel) (pa_cons (pv 0) (pa_cons (pe_bltn (v := .ty "tuple") rfl M.tuple (by decide +kernel) rfl) pa_nil))))) (pw_or1 (pt_not (pt_chain op_le op_le pe_int (pe_callB call_len_seq (by rfl) M.len (by decide +kernel) (pa_cons (pv 0) pa_nil)) (pe_glob (v := .int 6) rfl Z.most ⟨_, rfl⟩))))))
 (pss_one (ps_ret pe_bl))
 pss_nil)
 (pss_one (ps_ret (pe_callB (cr_all rfl) (by rfl) M.all (by decide +kernel) (pa_cons (pe_lc (own := [("row", 1)]) rfl cis_table.nd (pi_tup (pv 0)) (blkOk_by (own := [("row", 1)]) (N := nis_table) (sc := defScope sis_table) (by decide +kernel)) (fun _ _ _ _ _ => (pg_name (i := 1) cis_table.nd rfl (.inl rfl))) (fun _ _ _ _ _ => pts_nil) (fun _ _ _ _ _ => (pe_call Dis_table_row.G (hr.mono (by first | decide | omega)) rfl Dis_table_row.g Dis_table_row.kp Dis_table_row.b .nil pass0 (pa_cons (pv 1) (pa_cons (pe_callB (id := "len") (call_lenK (K := K) rfl) (by rfl) M.len (by decide +kernel) (pa_cons (pv 0) pa_nil)) pa_nil))))) pa_nil))))), ?_⟩
    refine ⟨_, rfl, W, v, d, "tuple", _, rfl, hd, kit_tup d, _, rfl, ?_⟩
    cases hd with
    | tup na ea el =>
      rename_i a xs ds
      have hl := el.length
      refine ifF (fun z => nomatch z) ?_
      refine ⟨_, rfl, a, xs, rfl, .inr (.of ea), _, _, rfl, rfl, _, rfl, ite2 (fun h1 => ?_) (fun h1 => ?_)⟩
      · refine ⟨_, _, rfl, rfl, _, rfl, ite2 (fun h2 => ?_) (fun h2 => ?_)⟩
        · have e : isTable (.tuple ds) = false := by
            show (decide (1 ≤ ds.length ∧ ds.length ≤ 6) && _) = _
            rw [decide_eq_false, Bool.false_and]
            simp at h2
            omega
          rw [e] at q
          exact q H (.refl H)
        · have l1 : 1 ≤ ds.length ∧ ds.length ≤ 6 := by
            simp at h1 h2
            omega
          refine ⟨_, rfl, a, rfl, ⟨xs, .of ea⟩, fun D nD => lc_rel (walk_tup (K := K) (a := a) (xs := xs)) No (fun H i y => ∃ b, y = .bl b ∧ (ds.map (isRow ds.length))[i]? = some b) (fun _ _ _ _ _ r => r) nD (fun _ z => z.elim) (by omega)
            (fun H' k' => .of (k' _ _ id ea)) ?_ ?_⟩
          · rintro i x H1 _ Q' hi k1 _ ⟨rfl, hx⟩ q'
            obtain ⟨d, hd, dx⟩ := el.at hx
            have s1 := no_same k1
            refine ⟨rfl, _, rfl, _, rfl, a, xs, rfl, .inr (.of (s1 _ _ ea)), W, x, d, ds.length, by rw [hl]; rfl, dx.keep (Kp.same s1), by omega, fun H2 s2 => q' _ _ (Kp.same s2) ⟨_, rfl, by rw [List.getElem?_map, hd]; rfl⟩⟩
          · rintro H1 acc k1 eD hla ha
            refine ⟨D, ds.map (isRow ds.length), rfl, .of ?_, ?_⟩
            · rw [eD, bls_of (by rw [hla, List.length_map, hl]) ha]
            · have e : isTable (.tuple ds) = (ds.map (isRow ds.length)).all id := by
                show (decide (1 ≤ ds.length ∧ ds.length ≤ 6) && ds.all (isRow ds.length)) = _
                rw [decide_eq_true l1, Bool.true_and, List.all_map]
                rfl
              rw [e] at q
              exact q H1 (no_same k1)
      · have e : isTable (.tuple ds) = false := by
          show (decide (1 ≤ ds.length ∧ ds.length ≤ 6) && _) = _
          rw [decide_eq_false, Bool.false_and]
          simp at h1
          omega
        rw [e] at q
        exact ⟨_, rfl, q H (.refl H)⟩
    | _ => exact ifT rfl (q H (.refl H))
/-! ### what is led to -/
def kvT (S : List Nat) : List (Key × V) := S.map fun (j : Nat) => ((Sum.inl (j : Int) : Key), V.bl true)
theorem val_kvT : ∀ (S : List Nat) (j : Nat), valV (kvT S) (Sum.inl (j : Int) : Key) = if j ∈ S then some (.bl true) else none
  | [], j => rfl
  | i :: S, j => by
    by_cases e : i = j
    · subst e
      rw [if_pos List.mem_cons_self]
      exact valV_pos rfl
    · have h : valV (kvT (i :: S)) (Sum.inl (j : Int) : Key) = valV (kvT S) (Sum.inl (j : Int) : Key) := valV_neg fun z => e (by
        have := Sum.inl.inj z
        omega)
      rw [h, val_kvT S j]
      by_cases c : j ∈ S
      · rw [if_pos c, if_pos (List.mem_cons_of_mem _ c)]
      · rw [if_neg c, if_neg fun z => by
          rcases List.mem_cons.mp z with z | z
          · exact e z.symm
          · exact c z]
theorem put_kvT {S : List Nat} {j : Nat} (h : j ∉ S) : putK (kvT S) (Sum.inl (j : Int) : Key) (.bl true) = kvT (S ++ [j]) := by
  have e := val_kvT S j
  rw [if_neg h] at e
  rw [putK_new _ e]
  unfold kvT
  rw [List.map_append]
  rfl
def dlen (H : Hp) (a : Addr) : Nat := match H a with
  | some (.dK kvs) => kvs.length
  | _ => 0
def llen (H : Hp) (a : Addr) : Nat := match H a with
  | some (.lst xs) => xs.length
  | _ => 0
/-- rows of truths -/
def Links (K : PySem.W.Frag) (H : Hp) (a : Addr) (ls : List Addr) (B : Nat → Nat → Bool) : Prop := SqL K H a (ls.map V.ref) ∧ ∀ (i : Nat) l, ls[i]? = some l → SqL K H l ((List.range ls.length).map fun j => V.bl (B i j))
theorem Links.same {K : PySem.W.Frag} {H H' : Hp} {a : Addr} {ls : List Addr} {B : Nat → Nat → Bool} (s : Same H H') (h : Links K H a ls B) : Links K H' a ls B := ⟨s.seq h.1, fun i l e => s.seq (h.2 i l e)⟩
def spLeads (K : PySem.W.Frag) : Sp := fun vs H Q _ => ∃ (a : Addr) (ls : List Addr) (B : Nat → Nat → Bool), vs = [.ref a] ∧ Links K H a ls B ∧ 1 ≤ ls.length ∧ ls.length ≤ 1000 ∧
  ∀ H' b, Same H H' → (b = true ↔ ∀ j, j < ls.length → Reach (LE ls.length B) 0 j) → Q (.bl b) H'
/-- what is found, what is to be looked at -/
structure Fnd (n : Nat) (B : Nat → Nat → Bool) (S T : List Nat) : Prop where
  nd : S.Nodup
  ok : ∀ x ∈ S, x < n ∧ Reach (LE n B) 0 x
  z : 0 ∈ S
  sub : ∀ x ∈ T, x ∈ S
theorem ok_leads {f : Addr} {fd : FuncData} (F : Fun K "leads_to_all" "leads_to_all" sleads_to_all f fd) (M : Mb mg) : FnOk P w K mg base CX0 1 f fd ["links"] (spLeads K) := by
  refine F.ok cleads_to_all (fun vs H Q E h => ?_) (fun cdv A outer s H vs Q E hr h => ?_)
  · obtain ⟨a, ls, B, rfl, _⟩ := h
    rfl
  · obtain ⟨a, ls, B, rfl, hL, l1, l9, q⟩ := h
    have hu : (A.deeper (envOfC "leads_to_all" (defScope sleads_to_all) s.heap.objs.size f cdv)).units + 1 < cLine := Nat.lt_of_le_of_lt (Nat.add_le_add_left (by decide : 1 ≤ 64) _) hr.units
    refine ⟨_, (pss_cons (ps_par (i := 1) (j := 2) (by rfl) cleads_to_all.nd rfl rfl (by decide) rfl rfl (pa_cons (pe_disp (pps_cons pe_int pe_bl pps_nil) (by rfl) (by rfl) (fun z => by cases z) (by decide)) (pa_cons (pe_lst (pa_cons pe_int pa_nil)) pa_nil)) (by rfl))
 (pss_cons (ps_while PassesOwn.never (pt_truth (pv 2) (by intro _; rfl))
 (pss_cons (ps_set (i := 3) cleads_to_all.nd rfl (.inl rfl) (pe_bm0 PySem.F.plainAttrs_list PySem.F.slot_list_pop PySem.F.type_list_pop mt_pop (pv 2)))
 (pss_one (ps_for PassesOwn.never rfl (pi_enum (by rfl) M.enumerate (pa_cons (pe_ix ix_list (pv 0) (pv 3) (fun _ _ => rfl)) pa_nil)) (pg_tup rfl (pgs_cons (pg_name (i := 4) cleads_to_all.nd rfl (.inl rfl)) (pgs_cons (pg_name (i := 5) cleads_to_all.nd rfl (.inl rfl)) pgs_nil)))
 (pss_one (ps_if (PW.pt (pw_and (pt_val (pv 5)) (pw_and1 (pt_cmp (pc_dnotin hu (pv 4) (pv 1))))))
 (pss_cons (ps_dput hu (pv 1) (pv 4) pe_bl rfl)
 (pss_one (ps_expr (pe_bm PySem.F.plainAttrs_list PySem.F.slot_list_append PySem.F.type_list_append mt_append (pv 2) (pa_cons (pv 4) pa_nil)))))
 pss_nil))))))
 (pss_one (ps_ret (pe_cmpR op_eq (pe_callB call_lenD (by rfl) M.len (by decide +kernel) (pa_cons (pv 1) pa_nil)) (pe_callB call_len_seq (by rfl) M.len (by decide +kernel) (pa_cons (pv 0) pa_nil)) (nomark _)))))), ?_⟩
    refine fun fA nf => ?_
    refine ⟨upd_same, [((.inl 0 : Key), .bl true)], rfl, (by show 1 ≤ 15; decide), ?_⟩
    have s1 : Same H (upd (upd H fA (.dK [])) fA (.dK (mergeK [] [((.inl 0 : Key), .bl true)]))) := same_mut (same_new nf) nf
    have e1 : (upd (upd H fA (.dK [])) fA (.dK (mergeK [] [((.inl 0 : Key), .bl true)]))) fA = some (.dK (kvT [0])) := upd_same
    generalize upd (upd H fA (.dK [])) fA (.dK (mergeK [] [((.inl 0 : Key), .bl true)])) = H1 at s1 e1
    refine ⟨sz63 (by show 1 ≤ 1000; decide), fun wA nw => ⟨_, _, rfl, ?_⟩⟩
    have wf : fA ≠ wA := ne_of_none e1 nw
    have s2 : Same H (upd H1 wA (.lst [.int 0])) := s1.trans (same_new nw)
    have e2 : (upd H1 wA (.lst [.int 0])) fA = some (.dK (kvT [0])) := by rw [upd_ne wf]; exact e1
    dsimp only [tSeq]
    refine while_by (fun σ H' => ∃ S T y3 y4 y5, σ = [some (.ref a), some (.ref fA), some (.ref wA), y3, y4, y5] ∧ Same H H' ∧ H' fA = some (.dK (kvT S)) ∧ H' wA = some (.lst (T.map fun j : Nat => V.int j)) ∧ Fnd ls.length B S T ∧
      (∀ x ∈ S, x ∉ T → ∀ y, LE ls.length B x y → y ∈ S) ∧ 2 * (ls.length - S.length) + T.length ≤ 2 * ls.length) (fun _ H' => 2 * (ls.length - dlen H' fA) + llen H' wA) ?_ ?_ ?_
    · refine ⟨[0], [0], none, none, none, rfl, s2, e2, upd_same, ⟨by simp, fun x hx => ?_, List.mem_cons_self, fun x hx => hx⟩, fun x hx hn => absurd hx hn, by simp; omega⟩
      obtain rfl : x = 0 := by simpa using hx
      exact ⟨by omega, .refl⟩
    · rintro σ H2 ⟨S, T, y3, y4, y5, rfl, s3, ef, ew, Fn, cl, m0⟩
      refine ⟨_, rfl, _, .inl ⟨_, .of ew, rfl⟩, ?_⟩
      have hn := nodup_len ls.length S Fn.nd fun x hx => (Fn.ok x hx).1
      have tc : T = [] ∨ ∃ (T' : List Nat) (h : Nat), T = T' ++ [h] := by
        rcases List.eq_nil_or_concat T with e | ⟨T', h, e⟩
        · exact .inl e
        · exact .inr ⟨T', h, by rw [e, List.concat_eq_append]⟩
      rcases tc with rfl | ⟨T, h, rfl⟩
      · refine ifF (by simp) ⟨_, rfl, _, _, rfl, ef, _, rfl, a, _, rfl, .inl (s3.seq hL.1), rfl, ?_⟩
        refine q H2 _ s3 ?_
        have hS : ∀ j, j ∈ S ↔ Reach (LE ls.length B) 0 j := fun j =>
          ⟨fun hj => (Fn.ok j hj).2, fun hj => reach_of (S := fun x => x ∈ S) Fn.z (fun x y hx e => cl x hx (by simp) y e) hj⟩
        have hk : (kvT S).length = S.length := List.length_map _
        rw [hk, List.length_map, decide_eq_true_iff]
        constructor
        · intro z j hj
          have z' := V.int.inj z
          exact (hS j).mp (hn.2 (by omega) j hj)
        · intro z
          have hall : ∀ j, j < ls.length → j ∈ S := fun j hj => (hS j).mpr (z j hj)
          have hr' := nodup_len S.length (List.range ls.length) List.nodup_range
          have : ls.length ≤ S.length := by
            have h2 := List.Nodup.length_le_of_subset (l₁ := List.range ls.length) (l₂ := S) List.nodup_range fun j hj => hall j (List.mem_range.mp hj)
            rw [List.length_range] at h2
            exact h2
          rw [show S.length = ls.length by omega]
      · have hT : h ∈ S := Fn.sub h (by simp)
        have hlt := (Fn.ok h hT).1
        have hl : ls[h]? = some ls[h] := List.getElem?_eq_getElem hlt
        refine ifT (by simp) ?_
        refine ⟨_, rfl, .inl ⟨rfl, _, .of ew⟩, wA, _, .int h, rfl, rfl, ew, by simp, ?_⟩
        have ef2 : (upd H2 wA (.lst ((T ++ [h]).map fun j : Nat => V.int j).dropLast)) fA = some (.dK (kvT S)) := by rw [upd_ne wf]; exact ef
        have ew2 : (upd H2 wA (.lst ((T ++ [h]).map fun j : Nat => V.int j).dropLast)) wA = some (.lst (T.map fun j : Nat => V.int j)) := by
          rw [upd_same]
          simp
        have s4 : Same H (upd H2 wA (.lst ((T ++ [h]).map fun j : Nat => V.int j).dropLast)) := same_mut s3 (s1.free nw)
        generalize upd H2 wA (.lst ((T ++ [h]).map fun j : Nat => V.int j).dropLast) = H3 at ef2 ew2 s4
        refine ⟨_, rfl, _, rfl, a, _, (h : Int), .ref ls[h], rfl, rfl, s4.seq hL.1, atI_nat (by rw [List.getElem?_map, hl]; rfl), ls[h], _, rfl, s4.seq (hL.2 h _ hl), ?_⟩
        have ml : 2 * (ls.length - dlen H2 fA) + llen H2 wA = 2 * (ls.length - S.length) + (T.length + 1) := by
          unfold dlen llen
          rw [ef, ew]
          simp [kvT]
        rw [ml]
        have rl : ((List.range ls.length).map fun j => V.bl (B h j)).length = ls.length := by simp
        refine for_it (walk_enum (K := K) (a := ls[h]) (xs := (List.range ls.length).map fun j => V.bl (B h j)))
          (fun i σ H' => ∃ S2 T2 y4 y5, σ = [some (.ref a), some (.ref fA), some (.ref wA), some (.int h), y4, y5] ∧ Same H H' ∧ H' fA = some (.dK (kvT S2)) ∧ H' wA = some (.lst (T2.map fun j : Nat => V.int j)) ∧ Fnd ls.length B S2 T2 ∧ h ∈ S2 ∧
            (∀ x ∈ S2, x ∉ T2 → x ≠ h → ∀ y, LE ls.length B x y → y ∈ S2) ∧ (∀ y, y < i → LE ls.length B h y → y ∈ S2) ∧ 2 * (ls.length - S2.length) + T2.length + 1 ≤ 2 * (ls.length - S.length) + (T.length + 1))
          ?_ (fun i σ H' _ ⟨_, _, _, _, _, s5, _⟩ => s5.seq (hL.2 h _ hl)) ?_ ?_
        · refine ⟨S, T, y4, y5, rfl, s4, ef2, ew2, ⟨Fn.nd, Fn.ok, Fn.z, fun x hx => Fn.sub x (by simp [hx])⟩, hT, fun x hx hnt hne => cl x hx (by simp [hnt, hne]), fun y hy => absurd hy (Nat.not_lt_zero y), by omega⟩
        · rintro i x σ H4 H4' hi ⟨S2, T2, y4', y5', rfl, s5, ef5, ew5, Fn5, hS5, cl5, done5, m5⟩ ⟨t, v1, v2, rfl, nt, rfl, e1, e2⟩
          obtain rfl : V.int (i : Nat) = v1 := Option.some.inj e1
          rw [rl] at hi
          have e2' : V.bl (B h i) = v2 := by
            dsimp only at e2
            rw [List.getElem?_map, List.getElem?_range hi] at e2
            exact Option.some.inj e2
          subst e2'
          have s6 : Same H (upd H4 t (.tup [.int (i : Nat), .bl (B h i)])) := s5.trans (same_new nt)
          have ef6 : (upd H4 t (.tup [.int (i : Nat), .bl (B h i)])) fA = some (.dK (kvT S2)) := by rw [upd_ne (ne_of_none ef5 nt)]; exact ef5
          have ew6 : (upd H4 t (.tup [.int (i : Nat), .bl (B h i)])) wA = some (.lst (T2.map fun j : Nat => V.int j)) := by rw [upd_ne (ne_of_none ew5 nt)]; exact ew5
          have et6 : (upd H4 t (.tup [.int (i : Nat), .bl (B h i)])) t = some (.tup [.int (i : Nat), .bl (B h i)]) := upd_same
          generalize upd H4 t (.tup [.int (i : Nat), .bl (B h i)]) = H5 at s6 ef6 ew6 et6
          refine ⟨t, _, rfl, .of et6, rfl, _, _, rfl, _, _, rfl, rfl, ?_⟩
          have next : (∀ y, y < i + 1 → LE ls.length B h y → y ∈ S2) → ∃ S2 T2 y4 y5, ([some (.ref a), some (.ref fA), some (.ref wA), some (.int h), some (.int (i : Nat)), some (.bl (B h i))] : L2.St) = [some (.ref a), some (.ref fA), some (.ref wA), some (.int h), y4, y5] ∧ Same H H5 ∧ H5 fA = some (.dK (kvT S2)) ∧ H5 wA = some (.lst (T2.map fun j : Nat => V.int j)) ∧ Fnd ls.length B S2 T2 ∧ h ∈ S2 ∧
            (∀ x ∈ S2, x ∉ T2 → x ≠ h → ∀ y, LE ls.length B x y → y ∈ S2) ∧ (∀ y, y < i + 1 → LE ls.length B h y → y ∈ S2) ∧ 2 * (ls.length - S2.length) + T2.length + 1 ≤ 2 * (ls.length - S.length) + (T.length + 1) :=
            fun d => ⟨S2, T2, _, _, rfl, s6, ef6, ew6, Fn5, hS5, cl5, d, m5⟩
          refine ⟨_, rfl, _, rfl, ite2 (fun hb => ?_) (fun hb => ?_)⟩
          · refine ⟨_, rfl, _, rfl, fA, _, rfl, DGet.k (k := Sum.inl (i : Int)) ef6, _, rfl, ?_⟩
            rw [val_kvT]
            by_cases c : i ∈ S2
            · rw [if_pos c]
              refine ifF (by simp) (next fun y hy e => ?_)
              by_cases ey : y = i
              · rw [ey]
                exact c
              · exact done5 y (by omega) e
            · rw [if_neg c]
              refine ifT (by simp) ?_
              have nl := nodup_len ls.length S2 Fn5.nd fun x hx => (Fn5.ok x hx).1
              have hEi : LE ls.length B h i := ⟨hlt, hi, hb⟩
              have nd' : (S2 ++ [i]).Nodup := List.nodup_append.mpr ⟨Fn5.nd, by simp, fun x hx y hy e => by
                have : y = i := by simpa using hy
                rw [e, this] at hx
                exact c hx⟩
              have ok' : ∀ x ∈ S2 ++ [i], x < ls.length ∧ Reach (LE ls.length B) 0 x := fun x hx => by
                rcases List.mem_append.mp hx with hx | hx
                · exact Fn5.ok x hx
                · have : x = i := by simpa using hx
                  rw [this]
                  exact ⟨hi, (Fn5.ok h hS5).2.step hEi⟩
              have nl' := nodup_len ls.length (S2 ++ [i]) nd' fun x hx => (ok' x hx).1
              rw [List.length_append, List.length_singleton] at nl'
              refine ⟨_, rfl, _, rfl, fA, _, rfl, DPut.k (k := Sum.inl (i : Int)) ef6 (by
                have : (kvT S2).length = S2.length := List.length_map _
                exact sz63' (by omega)), ?_⟩
              rw [put_kvT c]
              have ew7 : (upd H5 fA (.dK (kvT (S2 ++ [i])))) wA = some (.lst (T2.map fun j : Nat => V.int j)) := by rw [upd_ne (Ne.symm wf)]; exact ew6
              have s7 : Same H (upd H5 fA (.dK (kvT (S2 ++ [i])))) := same_mut s6 nf
              have ef7 : (upd H5 fA (.dK (kvT (S2 ++ [i])))) fA = some (.dK (kvT (S2 ++ [i]))) := upd_same
              generalize upd H5 fA (.dK (kvT (S2 ++ [i]))) = H6 at ew7 s7 ef7
              have tl : T2.length ≤ ls.length + ls.length + 1 := by
                rw [List.length_append, List.length_singleton] at m0
                omega
              refine ⟨_, rfl, .inl ⟨rfl, _, .of ew7⟩, _, rfl, wA, _, _, rfl, rfl, ew7, by rw [List.length_map]; exact Nat.lt_of_le_of_lt (show T2.length ≤ 3000 by omega) (by decide), ?_⟩
              refine ⟨S2 ++ [i], T2 ++ [i], _, _, rfl, same_mut s7 (s1.free nw), by rw [upd_ne wf]; exact ef7, by rw [upd_same, List.map_append]; rfl, ⟨nd', ok', List.mem_append_left _ Fn5.z, fun x hx => ?_⟩, List.mem_append_left _ hS5, fun x hx hnt hne y e => ?_, fun y hy e => ?_, ?_⟩
              · rcases List.mem_append.mp hx with hx | hx
                · exact List.mem_append_left _ (Fn5.sub x hx)
                · exact List.mem_append_right _ hx
              · rcases List.mem_append.mp hx with hx | hx
                · exact List.mem_append_left _ (cl5 x hx (fun z => hnt (List.mem_append_left _ z)) hne y e)
                · exact absurd (List.mem_append_right _ hx) hnt
              · by_cases ey : y = i
                · rw [ey]
                  simp
                · exact List.mem_append_left _ (done5 y (by omega) e)
              · rw [List.length_append, List.length_append, List.length_singleton]
                omega
          · refine next fun y hy e => ?_
            by_cases ey : y = i
            · rw [ey] at e
              exact absurd e.2.2 hb
            · exact done5 y (by omega) e
        · rintro σ H4 ⟨S2, T2, y4', y5', rfl, s5, ef5, ew5, Fn5, hS5, cl5, done5, m5⟩
          refine ⟨⟨S2, T2, _, _, _, rfl, s5, ef5, ew5, Fn5, fun x hx hnt y e => ?_, by rw [List.length_append, List.length_singleton] at m0; omega⟩, ?_⟩
          · by_cases ex : x = h
            · rw [ex] at e
              exact done5 y (by rw [rl]; exact e.2.1) e
            · exact cl5 x hx hnt ex y e
          · have ml2 : 2 * (ls.length - dlen H4 fA) + llen H4 wA = 2 * (ls.length - S2.length) + T2.length := by
              unfold dlen llen
              rw [ef5, ew5]
              simp [kvT]
            rw [ml2]
            omega
    · rintro σ H2 Q1 Q2 hq ⟨v, e, k, t, q⟩
      exact ⟨v, e, k, t, hq _ _ q⟩
/-- does each place of a table lead to each -/
def spWhole : Sp := fun vs H Q _ => ∃ (W : Addr → Prop) (v : V) (m : List (List Rat)), vs = [v] ∧ Dq W H v (tabD m) ∧ Tab m ∧ ∀ H' b, Same H H' → (b = true ↔ Strong m) → Q (.bl b) H'
theorem ok_whole {f : Addr} {fd : FuncData} (F : Fun K "is_whole_table" "is_whole_table" sis_whole_table f fd) (M : Mb mg) (Dleads_to_all : Df P w K mg base 1 "leads_to_all" ["links"] (spLeads K)) :
    FnOk P w K mg base CX0 2 f fd ["table"] spWhole := by
  refine F.ok cis_whole_table (fun vs H Q E h => ?_) (fun cdv A outer s H vs Q E hr h => ?_)
  · obtain ⟨_, v, m, rfl, _⟩ := h
    rfl
  · obtain ⟨W, v, m, rfl, hd, T, q⟩ := h
    refine ⟨_, (pss_cons (ps_setLc (i := 1) (own := [("row", 2)]) rfl cis_whole_table.nd rfl rfl (sw_true rfl rfl rfl (by decide +kernel)) (pi_tup (pv 0)) (blkOk_by (own := [("row", 2)]) (N := nis_whole_table) (sc := defScope sis_whole_table) (by decide +kernel)) (fun _ _ _ _ _ => (pg_name (i := 2) cis_whole_table.nd rfl (.inl rfl))) (fun _ _ _ _ _ => pts_nil) (fun _ _ _ _ _ => (by exact (pe_lc (own := [("number", 3)]) rfl cis_whole_table.nd (pi_tupK (K := K) rfl (pv 2)) (blkOk_by (by rfl)) (fun _ _ _ _ _ => (pg_name (i := 3) cis_whole_table.nd rfl (.inl rfl))) (fun _ _ _ _ _ => pts_nil) (fun _ _ _ _ _ => (pe_cmpR op_gt (pe_ix (ix_tupK (K := K) rfl) (pv 3) pe_int (fun _ _ => rfl)) pe_int (nomark _)))))))
 (pss_cons (ps_setLc (i := 4) (own := [("column", 5)]) rfl cis_whole_table.nd rfl rfl (sw_true rfl rfl rfl (by decide +kernel)) (Bz.pi_zipN (by rfl) M.zip (pv 1)) (blkOk_by (own := [("column", 5)]) (N := nis_whole_table) (sc := defScope sis_whole_table) (by decide +kernel)) (fun _ _ _ _ _ => (pg_name (i := 5) cis_whole_table.nd rfl (.inl rfl))) (fun _ _ _ _ _ => pts_nil) (fun _ _ _ _ _ => (pe_callTy (call_lstK (K := K) rfl) (by rfl) M.list (by decide +kernel) (pa_cons (pv 5) pa_nil))))
 (pss_one (ps_ret (pe_and (pe_call Dleads_to_all.G (hr.mono (by first | decide | omega)) rfl Dleads_to_all.g Dleads_to_all.kp Dleads_to_all.b .nil pass0 (pa_cons (pv 1) pa_nil)) (pe_one (pe_call Dleads_to_all.G (hr.mono (by first | decide | omega)) rfl Dleads_to_all.g Dleads_to_all.kp Dleads_to_all.b .nil pass0 (pa_cons (pv 4) pa_nil)))))))), ?_⟩
    obtain ⟨a, xs, rfl, na, ea, el⟩ := hd.tupI
    have hl : xs.length = m.length := by
      have := el.length
      rwa [List.length_map] at this
    have l6 := T.l6
    have l1 := T.l1
    -- links
    refine ⟨_, rfl, a, rfl, ⟨xs, .of ea⟩, fun D nD => lc_rel (walk_tup (K := K) (a := a) (xs := xs)) No
      (fun H i y => ∃ l, y = .ref l ∧ l ≠ D ∧ H l = some (.lst ((List.range m.length).map fun j => .bl (posB m i j))))
      (fun H H' i v k r => ?_) nD (fun _ z => z.elim) (by omega) (fun H' k' => .of (k' _ _ id ea)) ?_ ?_⟩
    · obtain ⟨l, rfl, ne, e⟩ := r
      exact ⟨l, rfl, ne, k _ _ (fun z => z.elim id ne) e⟩
    · rintro i x H1 _ Q' hi k1 nD1 ⟨rfl, hx⟩ q'
      refine ⟨rfl, ?_⟩
      obtain ⟨d, hd2, dx⟩ := el.at hx
      obtain ⟨r, hr1, rfl⟩ : ∃ r, m[i]? = some r ∧ rowD r = d := by
        rw [List.getElem?_map] at hd2
        cases z : m[i]? with
        | none =>
          rw [z] at hd2
          cases hd2
        | some r =>
          rw [z] at hd2
          exact ⟨r, rfl, Option.some.inj hd2⟩
      obtain ⟨b, ys, rfl, nb, eb, er⟩ := (dx.keep (Kp.same (no_same k1))).tupI
      have fr := dq_row (K := K) er
      have rl := T.rows r (List.mem_of_getElem? hr1)
      have yl := fr.1
      refine ⟨_, rfl, b, rfl, ⟨ys, .of eb⟩, fun D2 nD2 => lc_rel (walk_tup (K := K) (a := b) (xs := ys)) No (fun H j y => y = .bl (posB m i j)) (fun _ _ _ _ _ r => r) nD2 (fun _ z => z.elim) (by omega)
        (fun H' k' => .of (k' _ _ id eb)) ?_ ?_⟩
      · rintro j y H2 _ Q2 hj k2 _ ⟨rfl, hy⟩ q2
        have hq : r[j]? = some (r[j]'(by omega)) := List.getElem?_eq_getElem (by omega)
        obtain ⟨p, rfl, hp⟩ := (fr.2 j y _ hy hq).same (no_same k2)
        refine ⟨rfl, _, rfl, p, _, 0, _, rfl, rfl, hp, rfl, _, _, rfl, rfl, q2 _ _ (.refl _) ?_⟩
        rw [posB_of hr1 hq]
        exact congrArg V.bl (decide_eq_decide.mpr Bq.num_pos)
      · rintro H2 acc k2 eD2 hla ha
        refine q' _ _ k2 ⟨D2, rfl, fun z => ?_, ?_⟩
        · rw [z] at nD2
          exact nD1 nD2
        · rw [eD2, list_of (n := m.length) (by omega) ha]
    · rintro H1 acc k1 eD hla ha
      obtain ⟨ls, rfl, hls⟩ := refs_of (P := fun i l => l ≠ D ∧ H1 l = some (.lst ((List.range m.length).map fun j => .bl (posB m i j)))) fun i v e => ha i v e
      rw [List.length_map] at hla
      have lsl : ls.length = m.length := by omega
      have s1 := no_same k1
      have rows : ∀ {H'}, Same H1 H' → ∀ (i : Nat) l, ls[i]? = some l → SqL K H' l ((List.range m.length).map fun j => V.bl (posB m i j)) := fun s i l e => .of (s _ _ (hls i l e).2)
      -- turned
      refine ⟨_, rfl, D, ls, rfl, .inr (.of eD), by omega, by omega, fun l hl => ?_, fun D2 nD2 => ?_⟩
      · obtain ⟨i, hi⟩ := List.mem_iff_getElem?.mp hl
        exact ⟨_, rows (.refl _) i l hi⟩
      refine lc_rel (Bz.walk_zipN (K := K) (as := ls) (rows := fun i => (List.range m.length).map fun j => V.bl (posB m i j)) (n := m.length) (by omega) (fun i _ => by simp)) No
        (fun H i y => ∃ l, y = .ref l ∧ l ≠ D2 ∧ H l = some (.lst ((List.range m.length).map fun j => .bl (posB m j i))))
        (fun H H' i v k r => ?_) nD2 (fun _ z => z.elim) (by omega) (fun H' k' => rows (no_same k')) ?_ ?_
      · obtain ⟨l, rfl, ne, e⟩ := r
        exact ⟨l, rfl, ne, k _ _ (fun z => z.elim id ne) e⟩
      · rintro i x H2 H3 Q2 hi k2 nD3 ⟨t, vs, rfl, nt, rfl, hvl, hvs⟩ q2
        refine ⟨rfl, _, rfl, t, vs, rfl, .inr (.of upd_same), fun l nl => q2 _ _ ((Kp.refl _).upd nt |>.upd ?_) ⟨l, rfl, ?_, ?_⟩⟩
        · exact (same_new nt).free nl
        · intro z
          rw [z] at nl
          exact nD3 ((same_new nt).free nl)
        · rw [upd_same]
          congr 2
          refine list_of (by omega) fun j v e => ?_
          have hj : j < ls.length := by
            rw [← hvl]
            exact (List.getElem?_eq_some_iff.mp e).1
          have e2 := hvs j _ (List.getElem?_eq_getElem hj)
          rw [e, List.getElem?_map, List.getElem?_range hi] at e2
          exact Option.some.inj e2
      · rintro H2 acc2 k2 eD2 hla2 ha2
        obtain ⟨ls2, rfl, hls2⟩ := refs_of (P := fun i l => l ≠ D2 ∧ H2 l = some (.lst ((List.range m.length).map fun j => .bl (posB m j i)))) fun i v e => ha2 i v e
        rw [List.length_map] at hla2
        have s2 := no_same k2
        refine ⟨_, rfl, D, ls, posB m, rfl, ⟨.of (s2 _ _ eD), fun i l e => by rw [lsl]; exact rows s2 i l e⟩, by omega, by omega, fun H3 b1 s3 hb1 => ⟨_, rfl, ite2 (fun c => ?_) (fun c => ?_)⟩⟩
        · refine ⟨_, rfl, D2, ls2, (fun x y => posB m y x), rfl, ⟨.of (s3 _ _ eD2), fun i l e => by rw [hla2]; exact .of (s3 _ _ (hls2 i l e).2)⟩, by omega, by omega, fun H4 b2 s4 hb2 => q H4 _ (((s1.trans s2).trans s3).trans s4) ?_⟩
          rw [strong_by T]
          rw [lsl] at hb1
          rw [hla2] at hb2
          exact ⟨fun z => ⟨hb1.mp c, hb2.mp z⟩, fun z => hb2.mpr z.2⟩
        · rw [lsl] at hb1
          exact q H3 false ((s1.trans s2).trans s3) ⟨(fun z => nomatch z), fun z => absurd (hb1.mpr ((strong_by T).mp z).1) c⟩
/-- is it a walk -/
def spWalk (n : Nat) : Sp := fun vs H Q _ => ∃ (W : Addr → Prop) (v : V) (d : PyData), vs = [v] ∧ Dq W H v d ∧ Bd n d ∧ ∀ H' b, Same H H' → (b = true ↔ IsWalk d) → Q (.bl b) H'
theorem ok_is_walk {f : Addr} {fd : FuncData} {n : Nat} (hn : n ≤ 1000) (F : Fun K "is_walk" "is_walk" sis_walk f fd) (M : Mb mg) (Z : Mp K mg) (Dis_table : Df P w K mg base 5 "is_table" ["value"] (spAskN isTable))
    (Dis_whole_table : Df P w K mg base 2 "is_whole_table" ["table"] spWhole) (Dtotal : Df P w K mg base 3 "total" ["fractions"] (spTotal K)) :
    FnOk P w K mg base CX0 6 f fd ["value"] (spWalk n) := by
  refine F.ok cis_walk (fun vs H Q E h => ?_) (fun cdv A outer s H vs Q E hr h => ?_)
  · obtain ⟨_, v, d, rfl, _⟩ := h
    rfl
  · obtain ⟨W, v, d, rfl, hd, hb, q⟩ := h
    have hu := hr.units
    refine ⟨_, (pss_cons (ps_if (PW.pt (pw_or (pt_not (pt_val (pe_call Dis_table.G (hr.mono (by first | decide | omega)) rfl Dis_table.g Dis_table.kp Dis_table.b .nil pass0 (pa_cons (pv 0) pa_nil)))) (pw_or1 (pt_not (pt_val (pe_call Dis_whole_table.G (hr.mono (by first | decide | omega)) rfl Dis_whole_table.g Dis_whole_table.kp Dis_whole_table.b .nil pass0 (pa_cons (pv 0) pa_nil)))))))
 (pss_one (ps_ret pe_bl))
 pss_nil)
 (pss_one (ps_ret (pe_callB (cr_all rfl) (by rfl) M.all (by decide +kernel) (pa_cons (pe_lc (own := [("row", 1)]) rfl cis_walk.nd (pi_tup (pv 0)) (blkOk_by (own := [("row", 1)]) (N := nis_walk) (sc := defScope sis_walk) (by decide +kernel)) (fun _ _ _ _ _ => (pg_name (i := 1) cis_walk.nd rfl (.inl rfl))) (fun _ _ _ _ _ => pts_nil) (fun _ _ _ _ _ => (pe_cmpR (op_eqDK (K := K) rfl hu) (pe_call Dtotal.G (hr.mono (by first | decide | omega)) rfl Dtotal.g Dtotal.kp Dtotal.b .nil pass0 (pa_cons (pv 1) pa_nil)) (pe_glob (v := .ref Z.oneA) rfl Z.one rfl) (nomark _)))) pa_nil))))), ?_⟩
    refine ⟨_, rfl, W, v, d, rfl, hd, fun H1 s1 => ⟨_, rfl, ?_⟩⟩
    cases hT : isTable d with
    | false =>
      refine ifT rfl (ifT rfl (q H1 false s1 ⟨(fun z => nomatch z), fun ⟨m, e, T, _⟩ => ?_⟩))
      rw [isTable_iff.mpr ⟨m, e, T⟩] at hT
      cases hT
    | true =>
      obtain ⟨m, rfl, T⟩ := isTable_iff.mp hT
      refine ifF (fun z => nomatch z) ⟨_, rfl, W, v, m, rfl, hd.keep (Kp.same s1), T, fun H2 b2 s2 h2 => ⟨_, rfl, ?_⟩⟩
      have s12 := s1.trans s2
      obtain ⟨a, xs, rfl, na, ea, el⟩ := hd.tupI
      have hl : xs.length = m.length := by
        have := el.length
        rwa [List.length_map] at this
      have l6 := T.l6
      have hsz := bd_tab.mp hb
      cases b2 with
      | false =>
        refine ifT rfl (q H2 false s12 ⟨(fun z => nomatch z), fun ⟨m', e, _, st, _⟩ => ?_⟩)
        obtain rfl := tabD_inj e
        exact h2.mpr st
      | true =>
        have st := h2.mp rfl
        refine ifF (fun z => nomatch z) ?_
        refine ⟨_, rfl, a, rfl, ⟨xs, .of (s12 _ _ ea)⟩, fun D nD => lc_rel (walk_tup (K := K) (a := a) (xs := xs)) No (fun H i y => ∃ b, y = .bl b ∧ (m.map fun r => decide (Bq.sumQ r = 1))[i]? = some b) (fun _ _ _ _ _ r => r) nD (fun _ z => z.elim) (by omega)
          (fun H' k' => .of (k' _ _ id (s12 _ _ ea))) ?_ ?_⟩
        · rintro i x H3 _ Q' hi k3 _ ⟨rfl, hx⟩ q'
          obtain ⟨d, hd2, dx⟩ := el.at hx
          obtain ⟨r, hr1, rfl⟩ := map_some hd2
          have hrm := List.mem_of_getElem? hr1
          have s3 := s12.trans (no_same k3)
          obtain ⟨b, ys, rfl, nb, eb, er⟩ := (dx.keep (Kp.same s3)).tupI
          have rl := T.rows r hrm
          refine ⟨rfl, _, rfl, b, ys, r, n, rfl, .of eb, dq_row er, hsz r hrm, ?_, fun v H4 s4 hv _ => ?_⟩
          · have : r.length * (n + 1) ≤ 6 * 1001 := Nat.mul_le_mul (by omega) (by omega)
            omega
          · refine ⟨frD (Bq.sumQ r), frD 1, fr_dp hv, fr_dp ⟨_, rfl, Z.oneT H4⟩, fr_shaped _, fr_shaped _, ?_⟩
            rw [fr_eqv]
            exact q' _ _ (Kp.same s4) ⟨_, rfl, by rw [List.getElem?_map, hr1]; rfl⟩
        · rintro H3 acc k3 eD hla ha
          refine ⟨D, m.map fun r => decide (Bq.sumQ r = 1), rfl, .of ?_, q H3 _ (s12.trans (no_same k3)) ?_⟩
          · rw [eD, bls_of (by rw [hla, List.length_map, hl]) ha]
          · rw [List.all_map, List.all_eq_true]
            constructor
            · intro z
              exact ⟨m, rfl, T, st, fun r hr => of_decide_eq_true (z r hr)⟩
            · rintro ⟨m', e, _, _, z⟩ r hr
              obtain rfl := tabD_inj e
              exact decide_eq_true (z r hr)
end
end Kx
/-! The law's own fractions. -/
namespace Kx
open PySem PySem.Spec PyProof.Rows L2 Bw
abbrev s_law_frac : Stmt := topS 34
abbrev n_law_frac : List Str := ["up", "down", "here", "there"]
theorem c_law_frac : FnScope n_law_frac ["up", "down"] (defScope s_law_frac) :=
  ⟨rfl, rfl, rfl, by decide +kernel, rfl, by decide +kernel, by decide +kernel⟩

abbrev s_law_plus : Stmt := topS 35
abbrev n_law_plus : List Str := ["here", "there"]
theorem c_law_plus : FnScope n_law_plus ["here", "there"] (defScope s_law_plus) :=
  ⟨rfl, rfl, rfl, by decide +kernel, rfl, by decide +kernel, by decide +kernel⟩

abbrev s_law_over : Stmt := topS 37
abbrev n_law_over : List Str := ["here", "there"]
theorem c_law_over : FnScope n_law_over ["here", "there"] (defScope s_law_over) :=
  ⟨rfl, rfl, rfl, by decide +kernel, rfl, by decide +kernel, by decide +kernel⟩

abbrev s_law_total : Stmt := topS 38
abbrev n_law_total : List Str := ["parts", "found", "part"]
theorem c_law_total : FnScope n_law_total ["parts"] (defScope s_law_total) :=
  ⟨rfl, rfl, rfl, by decide +kernel, rfl, by decide +kernel, by decide +kernel⟩

abbrev s_law_over_sum : Stmt := topS 39
abbrev n_law_over_sum : List Str := ["row", "whole", "part"]
theorem c_law_over_sum : FnScope n_law_over_sum ["row"] (defScope s_law_over_sum) :=
  ⟨rfl, rfl, rfl, by decide +kernel, rfl, by decide +kernel, by decide +kernel⟩


section
variable {P : Program} {w : World} {K : PySem.W.Frag} {mg : Str → Option Value} {base : Heap}

def slotN (σ : L2.St) (i : Nat) : Nat := match σ[i]? with
  | some (some (.int t)) => t.toNat
  | _ => 0
theorem ok_lfrac {f : Addr} {fd : FuncData} (F : Fun K "_law_frac" "_law_frac" s_law_frac f fd) (M : Mb mg) : FnOk P w K mg base CX0 1 f fd ["up", "down"] spLowest := by
  refine F.ok c_law_frac (fun vs H Q E h => ?_) (fun cdv A outer s H vs Q E hr h => ?_)
  · obtain ⟨a, b, n, rfl, _⟩ := h
    rfl
  · obtain ⟨a, b, n, rfl, hb, hn, h9, q⟩ := h
    refine ⟨_, (pss_cons (ps_par (i := 2) (j := 3) (by rfl) c_law_frac.nd rfl rfl (by decide) rfl rfl (pa_cons (pe_callB call_abs (by rfl) M.abs (by decide +kernel) (pa_cons (pv 0) pa_nil)) (pa_cons (pv 1) pa_nil)) (by rfl))
 (pss_cons (ps_while PassesOwn.never (pt_cmpR op_gt (pv 3) pe_int (nomark _))
 (pss_one (ps_par (i := 2) (j := 3) (by rfl) c_law_frac.nd rfl rfl (by decide) rfl rfl (pa_cons (pv 3) (pa_cons (pe_op op_mod (pe_callTy call_int1 (by rfl) M.int (by decide +kernel) (pa_cons (pv 2) pa_nil)) (pv 3)) pa_nil)) (by rfl))))
 (pss_one (ps_ret (pe_tup (pa_cons (pe_op op_fdivW (pv 0) (pv 2)) (pa_cons (pe_op op_fdivW (pv 1) (pv 2)) pa_nil))))))), ?_⟩
    refine ⟨_, rfl, a, rfl, _, rfl, _, _, rfl, ?_⟩
    dsimp only [tSeq]
    refine while_by (fun σ H' => H' = H ∧ ∃ x y : Nat, σ = [some (.int a), some (.int b), some (.int x), some (.int y)] ∧ Nat.gcd x y = Nat.gcd a.natAbs b.natAbs) (fun σ _ => slotN σ 3) ?_ ?_ ?_
    · refine ⟨rfl, a.natAbs, b.natAbs, ?_, rfl⟩
      have e1 : ((b.natAbs : Nat) : Int) = b := by omega
      have e2 : (if a < 0 then -a else a) = ((a.natAbs : Nat) : Int) := by
        split <;> omega
      rw [e1, e2]
      rfl
    · rintro σ H1 ⟨rfl, x, y, rfl, hg⟩
      refine ⟨_, rfl, _, _, rfl, rfl, _, rfl, ite2 (fun c => ?_) (fun c => ?_)⟩
      · have hy : 0 < y := by
          have := of_decide_eq_true c
          omega
        refine ⟨_, rfl, _, rfl, .inl ⟨_, rfl, _, rfl, _, _, rfl, rfl, (show (0 : Int) < y by omega), ?_⟩⟩
        refine ⟨_, _, rfl, ⟨rfl, y, x % y, rfl, ?_⟩, ?_⟩
        · rw [← hg, Nat.gcd_comm x y, Nat.gcd_rec y x]
          exact Nat.gcd_comm _ _
        · show (((x : Int) % (y : Int))).toNat < ((y : Int)).toNat
          have h1 : (x : Int) % (y : Int) = ((x % y : Nat) : Int) := rfl
          rw [h1]
          have := Nat.mod_lt x hy
          omega
      · have hy : y = 0 := by
          simp at c
          omega
        subst hy
        rw [Nat.gcd_zero_right] at hg
        have hg0 : 0 < Nat.gcd a.natAbs b.natAbs := Nat.gcd_pos_of_pos_right _ (by omega)
        have hg2 : Nat.gcd a.natAbs b.natAbs ≤ b.natAbs := Nat.gcd_le_right _ (by omega)
        have hn0 : 0 < n := by
          cases n with
          | zero => omega
          | succ n => omega
        subst hg
        have cd : CDivW a ((Nat.gcd a.natAbs b.natAbs : Nat) : Int) := wide_div (b := n) (by omega) (by omega) hn0 h9
        refine ⟨_, rfl, _, rfl, _, _, rfl, rfl, cd, _, rfl, _, rfl, _, _, rfl, rfl, cd, sz63 (by show 2 ≤ 1000; decide), fun p hp => ?_⟩
        have q' := q p hp
        rw [Bq.q_num hb, Bq.q_den hb] at q'
        exact q'
    · rintro σ H2 Q1 Q2 hq ⟨v, e, i, j, e1, e2, k, e3, q⟩
      exact ⟨v, e, i, j, e1, e2, k, e3, hq _ _ q⟩
theorem ok_lplus {f : Addr} {fd : FuncData} (F : Fun K "_law_plus" "_law_plus" s_law_plus f fd) (M : Mb mg) (Dlaw_frac : Df P w K mg base 1 "_law_frac" ["up", "down"] spLowest) : FnOk P w K mg base CX0 2 f fd ["here", "there"] (spPlus K) := by
  refine F.ok c_law_plus (fun vs H Q E h => ?_) (fun cdv A outer s H vs Q E hr h => ?_)
  · obtain ⟨v, u, p, q, m, n, rfl, _⟩ := h
    rfl
  · obtain ⟨v, u, p, r, m, n, rfl, ⟨a, rfl, ha⟩, ⟨b, rfl, hb⟩, sp, sr, hmn, q⟩ := h
    refine ⟨_, (pss_one (ps_ret (pe_call Dlaw_frac.G (hr.mono (by first | decide | omega)) rfl Dlaw_frac.g Dlaw_frac.kp Dlaw_frac.b .nil pass0 (pa_cons (pe_op op_add (pe_op op_mulW (pe_ix ix_tup (pv 0) pe_int (fun _ _ => rfl)) (pe_ix ix_tup (pv 1) pe_int (fun _ _ => rfl))) (pe_op op_mulW (pe_ix ix_tup (pv 1) pe_int (fun _ _ => rfl)) (pe_ix ix_tup (pv 0) pe_int (fun _ _ => rfl)))) (pa_cons (pe_op op_mulW (pe_ix ix_tup (pv 0) pe_int (fun _ _ => rfl)) (pe_ix ix_tup (pv 1) pe_int (fun _ _ => rfl))) pa_nil))))), ?_⟩
    have m0 := sz_pos sp
    have n0 := sz_pos sr
    refine ⟨_, rfl, a, _, 0, _, rfl, rfl, ha, rfl, _, rfl, b, _, 1, _, rfl, rfl, hb, rfl, _, _, rfl, rfl, mulW sp.1 (Bq.den_abs sr) m0 n0 hmn, ?_⟩
    refine ⟨_, rfl, b, _, 0, _, rfl, rfl, hb, rfl, _, rfl, a, _, 1, _, rfl, rfl, ha, rfl, _, _, rfl, rfl, mulW sr.1 (Bq.den_abs sp) n0 m0 (by omega), ?_⟩
    refine ⟨_, _, rfl, rfl, ?_⟩
    refine ⟨_, rfl, a, _, 1, _, rfl, rfl, ha, rfl, _, rfl, b, _, 1, _, rfl, rfl, hb, rfl, _, _, rfl, rfl, mulW (Bq.den_abs sp) (Bq.den_abs sr) m0 n0 hmn, ?_⟩
    refine ⟨_, _, m + n, rfl, Bq.dens_pos p r, Bq.dens sp sr, hmn, fun x hx => ?_⟩
    have q' := q x hx
    rw [← Bq.q_add] at q'
    exact q'
/-- one fraction over another one, above 0 -/
def spOver (K : PySem.W.Frag) : Sp := fun vs H Q _ => ∃ (v u : V) (p q : Rat) (m n : Nat), vs = [v, u] ∧ FrR K H v p ∧ FrR K H u q ∧ Bq.Sz m p ∧ Bq.Sz n q ∧ m + n ≤ 9000 ∧ 0 < q ∧
  ∀ a, H a = none → Q (.ref a) (upd H a (.tup [.int (p / q).num, .int (p / q).den]))
theorem ok_lover {f : Addr} {fd : FuncData} (F : Fun K "_law_over" "_law_over" s_law_over f fd) (M : Mb mg) (Dlaw_frac : Df P w K mg base 1 "_law_frac" ["up", "down"] spLowest) : FnOk P w K mg base CX0 2 f fd ["here", "there"] (spOver K) := by
  refine F.ok c_law_over (fun vs H Q E h => ?_) (fun cdv A outer s H vs Q E hr h => ?_)
  · obtain ⟨v, u, p, q, m, n, rfl, _⟩ := h
    rfl
  · obtain ⟨v, u, p, r, m, n, rfl, ⟨a, rfl, ha⟩, ⟨b, rfl, hb⟩, sp, sr, hmn, r0, q⟩ := h
    refine ⟨_, (pss_one (ps_ret (pe_call Dlaw_frac.G (hr.mono (by first | decide | omega)) rfl Dlaw_frac.g Dlaw_frac.kp Dlaw_frac.b .nil pass0 (pa_cons (pe_op op_mulW (pe_ix ix_tup (pv 0) pe_int (fun _ _ => rfl)) (pe_ix ix_tup (pv 1) pe_int (fun _ _ => rfl))) (pa_cons (pe_op op_mulW (pe_ix ix_tup (pv 0) pe_int (fun _ _ => rfl)) (pe_ix ix_tup (pv 1) pe_int (fun _ _ => rfl))) pa_nil))))), ?_⟩
    have m0 := sz_pos sp
    have n0 := sz_pos sr
    have rn := Bq.num_pos.mpr r0
    refine ⟨_, rfl, a, _, 0, _, rfl, rfl, ha, rfl, _, rfl, b, _, 1, _, rfl, rfl, hb, rfl, _, _, rfl, rfl, mulW sp.1 (Bq.den_abs sr) m0 n0 hmn, ?_⟩
    refine ⟨_, rfl, a, _, 1, _, rfl, rfl, ha, rfl, _, rfl, b, _, 0, _, rfl, rfl, hb, rfl, _, _, rfl, rfl, mulW (Bq.den_abs sp) sr.1 m0 n0 hmn, ?_⟩
    refine ⟨_, _, m + n, rfl, Int.mul_pos (Bq.den_pos p) rn, Bq.mul_lt (Bq.den_abs sp) sr.1, hmn, fun x hx => ?_⟩
    have q' := q x hx
    rw [← Bq.q_div] at q'
    exact q'
/-- the sum of a row, a new fraction -/
def spSum (K : PySem.W.Frag) (S : Hp → Addr → List V → Prop) : Sp := fun vs H Q _ => ∃ (a : Addr) (xs : List V) (qs : List Rat) (n : Nat), vs = [.ref a] ∧ S H a xs ∧ FrRow K H xs qs ∧ (∀ q ∈ qs, Bq.Sz n q) ∧ 1 + qs.length * (n + 1) ≤ 9000 ∧
  ∀ v H', Same H H' → Dq (Old H) H' v (frD (Bq.sumQ qs)) → Q v H'
theorem ok_ltotalT {f : Addr} {fd : FuncData} (F : Fun K "_law_total" "_law_total" s_law_total f fd) (M : Mb mg) (Dlaw_plus : Df P w K mg base 2 "_law_plus" ["here", "there"] (spPlus K)) :
    FnOk P w K mg base CX0 3 f fd ["parts"] (spSum K (SqT K)) := by
  refine F.ok c_law_total (fun vs H Q E h => ?_) (fun cdv A outer s H vs Q E hr h => ?_)
  · obtain ⟨a, xs, qs, n, rfl, _⟩ := h
    rfl
  · obtain ⟨a, xs, qs, n, rfl, ha, hx, hs, hn, q⟩ := h
    refine ⟨_, (pss_cons (ps_set (i := 1) c_law_total.nd rfl (.inl rfl) (pe_tup (pa_cons pe_int (pa_cons pe_int pa_nil))))
 (pss_cons (ps_for PassesOwn.never rfl (pi_tup (pv 0)) (pg_name (i := 2) c_law_total.nd rfl (.inl rfl))
 (pss_one (ps_set (i := 1) c_law_total.nd rfl (.inl rfl) (pe_call Dlaw_plus.G (hr.mono (by first | decide | omega)) rfl Dlaw_plus.g Dlaw_plus.kp Dlaw_plus.b .nil pass0 (pa_cons (pv 1) (pa_cons (pv 2) pa_nil))))))
 (pss_one (ps_ret (pv 1))))), ?_⟩
    refine ⟨sz63 (by show 2 ≤ 1000; decide), fun z0 n0 => ?_⟩
    refine ⟨_, rfl, a, rfl, ⟨_, same_tup (same_new n0) ha⟩, for_tup (K := K) (a := a) (xs := xs)
      (fun i σ H' => ∃ v y, σ = [some (.ref a), some v, y] ∧ Same H H' ∧ Dq (Old H) H' v (frD (Bq.sumQ (qs.take i))))
      ⟨_, none, rfl, same_new n0, fr_dq (fun z => z n0) upd_same⟩ (fun i σ H' _ ⟨_, _, _, s, _⟩ => same_tup s ha) ?_ ?_⟩
    · rintro i x σ H1 hi ⟨v, y, rfl, s1, hv⟩
      have hl : i < qs.length := by
        rw [← hx.1]
        exact (List.getElem?_eq_some_iff.mp hi).1
      have e : qs[i]? = some qs[i] := List.getElem?_eq_getElem hl
      have hb : i * (n + 1) + (n + 1) ≤ qs.length * (n + 1) := by
        rw [← Nat.succ_mul]
        exact Nat.mul_le_mul_right _ hl
      refine ⟨_, rfl, _, rfl, v, x, _, _, 1 + i * (n + 1), n, rfl, hv.fr, (hx.2 i x _ hi e).same s1, sz_take hs i (by omega), hs _ (List.mem_of_getElem? e), by omega, fun p hp => ?_⟩
      rw [← sum_take e]
      exact ⟨_, _, rfl, s1.trans (same_new hp), fr_dq (fun z => z (s1.free hp)) upd_same⟩
    · rintro σ H1 ⟨v, y, rfl, s1, hv⟩
      rw [hx.1, List.take_length] at hv
      exact ⟨_, rfl, q v H1 s1 hv⟩
theorem ok_ltotalL {f : Addr} {fd : FuncData} (F : Fun K "_law_total" "_law_total" s_law_total f fd) (M : Mb mg) (Dlaw_plus : Df P w K mg base 2 "_law_plus" ["here", "there"] (spPlus K)) :
    FnOk P w K mg base CX0 3 f fd ["parts"] (spSum K (SqL K)) := by
  refine F.ok c_law_total (fun vs H Q E h => ?_) (fun cdv A outer s H vs Q E hr h => ?_)
  · obtain ⟨a, xs, qs, n, rfl, _⟩ := h
    rfl
  · obtain ⟨a, xs, qs, n, rfl, ha, hx, hs, hn, q⟩ := h
    refine ⟨_, (pss_cons (ps_set (i := 1) c_law_total.nd rfl (.inl rfl) (pe_tup (pa_cons pe_int (pa_cons pe_int pa_nil))))
 (pss_cons (ps_for PassesOwn.never rfl (pi_list (pv 0)) (pg_name (i := 2) c_law_total.nd rfl (.inl rfl))
 (pss_one (ps_set (i := 1) c_law_total.nd rfl (.inl rfl) (pe_call Dlaw_plus.G (hr.mono (by first | decide | omega)) rfl Dlaw_plus.g Dlaw_plus.kp Dlaw_plus.b .nil pass0 (pa_cons (pv 1) (pa_cons (pv 2) pa_nil))))))
 (pss_one (ps_ret (pv 1))))), ?_⟩
    refine ⟨sz63 (by show 2 ≤ 1000; decide), fun z0 n0 => ?_⟩
    refine ⟨_, rfl, a, rfl, ⟨_, (same_new n0).seq ha⟩, for_list (K := K) (a := a) (xs := xs)
      (fun i σ H' => ∃ v y, σ = [some (.ref a), some v, y] ∧ Same H H' ∧ Dq (Old H) H' v (frD (Bq.sumQ (qs.take i))))
      ⟨_, none, rfl, same_new n0, fr_dq (fun z => z n0) upd_same⟩ (fun i σ H' _ ⟨_, _, _, s, _⟩ => s.seq ha) ?_ ?_⟩
    · rintro i x σ H1 hi ⟨v, y, rfl, s1, hv⟩
      have hl : i < qs.length := by
        rw [← hx.1]
        exact (List.getElem?_eq_some_iff.mp hi).1
      have e : qs[i]? = some qs[i] := List.getElem?_eq_getElem hl
      have hb : i * (n + 1) + (n + 1) ≤ qs.length * (n + 1) := by
        rw [← Nat.succ_mul]
        exact Nat.mul_le_mul_right _ hl
      refine ⟨_, rfl, _, rfl, v, x, _, _, 1 + i * (n + 1), n, rfl, hv.fr, (hx.2 i x _ hi e).same s1, sz_take hs i (by omega), hs _ (List.mem_of_getElem? e), by omega, fun p hp => ?_⟩
      rw [← sum_take e]
      exact ⟨_, _, rfl, s1.trans (same_new hp), fr_dq (fun z => z (s1.free hp)) upd_same⟩
    · rintro σ H1 ⟨v, y, rfl, s1, hv⟩
      rw [hx.1, List.take_length] at hv
      exact ⟨_, rfl, q v H1 s1 hv⟩
/-- each of a row over the sum of all -/
def spOverSum (K : PySem.W.Frag) : Sp := fun vs H Q _ => ∃ (a : Addr) (xs : List V) (qs : List Rat) (n : Nat), vs = [.ref a] ∧ SqL K H a xs ∧ FrRow K H xs qs ∧ (∀ q ∈ qs, Bq.Sz n q) ∧ qs.length ≤ 100 ∧ 1 + qs.length * (n + 1) + n ≤ 9000 ∧ 0 < Bq.sumQ qs ∧
  ∀ v H', Same H H' → Dq (Old H) H' v (rowD (qs.map fun q => q / Bq.sumQ qs)) → Q v H'
theorem ok_loversum {f : Addr} {fd : FuncData} (F : Fun K "_law_over_sum" "_law_over_sum" s_law_over_sum f fd) (M : Mb mg) (Dlaw_over : Df P w K mg base 2 "_law_over" ["here", "there"] (spOver K))
    (Dlaw_total : Df P w K mg base 3 "_law_total" ["parts"] (spSum K (SqL K))) : FnOk P w K mg base CX0 4 f fd ["row"] (spOverSum K) := by
  refine F.ok c_law_over_sum (fun vs H Q E h => ?_) (fun cdv A outer s H vs Q E hr h => ?_)
  · obtain ⟨a, xs, qs, n, rfl, _⟩ := h
    rfl
  · obtain ⟨a, xs, qs, n, rfl, ha, hx, hs, hl, hn, h0, q⟩ := h
    refine ⟨_, (pss_cons (ps_set (i := 1) c_law_over_sum.nd rfl (.inr rfl) (pe_call Dlaw_total.G (hr.mono (by first | decide | omega)) rfl Dlaw_total.g Dlaw_total.kp Dlaw_total.b .nil pass0 (pa_cons (pv 0) pa_nil)))
 (pss_one (ps_ret (pe_callTy call_tuple_of (by rfl) M.tuple (by decide +kernel) (pa_cons (pe_lc (own := [("part", 2)]) rfl c_law_over_sum.nd (pi_list (pv 0)) (blkOk_by (own := [("part", 2)]) (N := n_law_over_sum) (sc := defScope s_law_over_sum) (by decide +kernel)) (fun _ _ _ _ _ => (pg_name (i := 2) c_law_over_sum.nd rfl (.inl rfl))) (fun _ _ _ _ _ => pts_nil) (fun _ _ _ _ _ => (pe_call Dlaw_over.G (hr.mono (by first | decide | omega)) rfl Dlaw_over.g Dlaw_over.kp Dlaw_over.b .nil pass0 (pa_cons (pv 2) (pa_cons (pv 1) pa_nil))))) pa_nil))))), ?_⟩
    refine ⟨_, rfl, a, xs, qs, n, rfl, ha, hx, hs, by omega, fun u H1 s1 hu => ?_⟩
    have su : Bq.Sz (1 + qs.length * (n + 1)) (Bq.sumQ qs) := by
      have := sz_take hs qs.length (Nat.le_refl _)
      rwa [List.take_length] at this
    have xl := hx.1
    refine ⟨_, rfl, a, rfl, ⟨xs, s1.seq ha⟩, fun D nD => lc_rel (walk_list (K := K) (a := a) (xs := xs)) No (fun H' i y => ∃ p, qs[i]? = some p ∧ Dq (fun b => Old H b ∨ b = D) H' y (frD (p / Bq.sumQ qs)))
      (fun H H' i v k r => ?_) nD (fun _ z => z.elim) (by omega) (fun H' k' => (s1.trans (no_same k')).seq ha) ?_ ?_⟩
    · obtain ⟨p, e, h⟩ := r
      exact ⟨p, e, h.keep (k.mono fun b z => z.elim (fun z => z.elim) .inr)⟩
    · rintro i x H2 _ Q' hi k2 nD2 ⟨rfl, hx2⟩ q'
      have e : qs[i]? = some (qs[i]'(by omega)) := List.getElem?_eq_getElem (by omega)
      have s2 := no_same k2
      refine ⟨rfl, _, rfl, _, rfl, x, u, _, _, n, 1 + qs.length * (n + 1), rfl, (hx.2 i x _ hx2 e).same (s1.trans s2), hu.fr.same s2, hs _ (List.mem_of_getElem? e), su, by omega, h0, fun p hp => ?_⟩
      refine q' _ _ (Kp.new hp) ⟨_, e, fr_dq (fun z => ?_) upd_same⟩
      rcases z with z | z
      · exact z ((s1.trans s2).free hp)
      · rw [z] at hp
        exact nD2 hp
    · rintro H2 acc k2 eD hla ha2
      have s2 := no_same k2
      refine ⟨D, acc, rfl, .inl ⟨.of eD, fun t nt => q _ _ ((s1.trans s2).trans (same_new nt)) (.tup (fun z => z ((s1.trans s2).free nt)) upd_same ?_)⟩⟩
      have all : DqAll (fun b => Old H b ∨ b = D) H2 acc ((qs.map fun q => q / Bq.sumQ qs).map frD) := dqAll_of (by rw [List.length_map, List.length_map]; omega) fun i v e => by
        obtain ⟨p, e2, h⟩ := ha2 i v e
        exact ⟨_, by rw [List.getElem?_map, List.getElem?_map, e2]; rfl, h⟩
      exact (all.keep (Kp.new nt)).weak fun b z => .inl z
end
end Kx
/-! The law looks at a value itself. -/
namespace Kx
open PySem PySem.Spec PyProof.Rows L2 Bw
abbrev s_law_is_number : Stmt := topS 48
abbrev n_law_is_number : List Str := ["thing"]
theorem c_law_is_number : FnScope n_law_is_number ["thing"] (defScope s_law_is_number) :=
  ⟨rfl, rfl, rfl, by decide +kernel, rfl, by decide +kernel, by decide +kernel⟩

abbrev s_law_is_frac : Stmt := topS 49
abbrev n_law_is_frac : List Str := ["thing"]
theorem c_law_is_frac : FnScope n_law_is_frac ["thing"] (defScope s_law_is_frac) :=
  ⟨rfl, rfl, rfl, by decide +kernel, rfl, by decide +kernel, by decide +kernel⟩

section
variable {P : Program} {w : World} {K : PySem.W.Frag} {mg : Str → Option Value} {base : Heap}
theorem ok_lnum {f : Addr} {fd : FuncData} (F : Fun K "_law_is_number" "_law_is_number" s_law_is_number f fd) (M : Mb mg) : FnOk P w K mg base CX0 1 f fd ["thing"] (spAsk isNum) := by
  refine F.ok c_law_is_number (fun vs H Q E h => ?_) (fun cdv A outer s H vs Q E hr h => ?_)
  · obtain ⟨_, v, d, rfl, _⟩ := h
    rfl
  · obtain ⟨W, v, d, rfl, hd, q⟩ := h
    refine ⟨_, (pss_one (ps_ret (pe_and (pe_callB call_isD (by rfl) M.isinstance (by decide +kernel) (pa_cons (pv 0) (pa_cons (pe_bltn (v := .ty "int") rfl M.int (by decide +kernel) rfl) pa_nil))) (pe_one (pe_not (pe_callB call_isD (by rfl) M.isinstance (by decide +kernel) (pa_cons (pv 0) (pa_cons (pe_bltn (v := .ty "bool") rfl M.bool (by decide +kernel) rfl) pa_nil)))))))), ?_⟩
    refine ⟨_, rfl, W, v, d, "int", _, rfl, hd, kit_int d, _, rfl, ?_⟩
    cases d with
    | int i => exact ifT rfl ⟨_, rfl, W, v, _, "bool", _, rfl, hd, kit_bool _, _, rfl, q⟩
    | bool b => exact ifT rfl ⟨_, rfl, W, v, _, "bool", _, rfl, hd, kit_bool _, _, rfl, q⟩
    | _ => exact ifF (fun z => nomatch z) q
/-- a question about any value whose numbers are below 2 ^ n -/
def spAskB (n : Nat) (b : PyData → Bool) : Sp := fun vs H Q _ => ∃ (W : Addr → Prop) (v : V) (d : PyData), vs = [v] ∧ Dq W H v d ∧ Bd n d ∧ ∀ H', Same H H' → Q (.bl (b d)) H'
theorem ok_lisfrac {n : Nat} (hn9 : n ≤ 1000) {f : Addr} {fd : FuncData} (F : Fun K "_law_is_frac" "_law_is_frac" s_law_is_frac f fd) (M : Mb mg) (Dlaw_is_number : Df P w K mg base 1 "_law_is_number" ["thing"] (spAsk isNum))
    (Dlaw_frac : Df P w K mg base 1 "_law_frac" ["up", "down"] spLowest) : FnOk P w K mg base CX0 2 f fd ["thing"] (spAskB n isFr) := by
  refine F.ok c_law_is_frac (fun vs H Q E h => ?_) (fun cdv A outer s H vs Q E hr h => ?_)
  · obtain ⟨_, v, d, rfl, _⟩ := h
    rfl
  · obtain ⟨W, v, d, rfl, hd, hb, q⟩ := h
    have hu := hr.units
    refine ⟨_, (pss_cons (ps_if (PW.pt (pw_or (pt_not (pt_val (pe_callB call_isD (by rfl) M.isinstance (by decide +kernel) (pa_cons (pv 0) (pa_cons (pe_bltn (v := .ty "tuple") rfl M.tuple (by decide +kernel) rfl) pa_nil))))) (pw_or (pt_cmpR op_ne (pe_callB call_len_seq (by rfl) M.len (by decide +kernel) (pa_cons (pv 0) pa_nil)) pe_int (nomark _)) (pw_or (pt_not (pt_val (pe_call Dlaw_is_number.G (hr.mono (by first | decide | omega)) rfl Dlaw_is_number.g Dlaw_is_number.kp Dlaw_is_number.b .nil pass0 (pa_cons (pe_ix ix_tup (pv 0) pe_int (fun _ _ => rfl)) pa_nil)))) (pw_or1 (pt_not (pt_val (pe_call Dlaw_is_number.G (hr.mono (by first | decide | omega)) rfl Dlaw_is_number.g Dlaw_is_number.kp Dlaw_is_number.b .nil pass0 (pa_cons (pe_ix ix_tup (pv 0) pe_int (fun _ _ => rfl)) pa_nil)))))))))
 (pss_one (ps_ret pe_bl))
 pss_nil)
 (pss_one (ps_ret (pe_and (pe_cmpR op_gt (pe_ix ix_tup (pv 0) pe_int (fun _ _ => rfl)) pe_int (nomark _)) (pe_one (pe_cmpR (op_eqD hu) (pe_call Dlaw_frac.G (hr.mono (by first | decide | omega)) rfl Dlaw_frac.g Dlaw_frac.kp Dlaw_frac.b .nil pass0 (pa_cons (pe_ix ix_tup (pv 0) pe_int (fun _ _ => rfl)) (pa_cons (pe_ix ix_tup (pv 0) pe_int (fun _ _ => rfl)) pa_nil))) (pv 0) (nomark _))))))), ?_⟩
    refine ⟨_, rfl, W, v, d, "tuple", _, rfl, hd, kit_tup d, _, rfl, ?_⟩
    cases hd with
    | tup na ea el =>
      rename_i a xs ds
      refine ifF (fun z => nomatch z) ⟨_, rfl, a, xs, rfl, .inr (.of ea), rfl, _, rfl, ite2 (fun hn => ?_) (fun hn => ?_)⟩
      · have hl : ds.length ≠ 2 := fun z => by
          have := el.length
          simp at hn
          omega
        have e : isFr (.tuple ds) = false := by
          unfold isFr
          split
          · rename_i z
            cases z
            simp at hl
          · rfl
        rw [e] at q
        exact ifT rfl (q H (.refl H))
      · have hl : xs.length = 2 := by
          simp at hn
          omega
        match xs, ds, el, hl with
        | [x, y], [d1, d2], .cons h1 (.cons h2 .nil), _ =>
          refine ⟨_, rfl, a, _, 0, x, rfl, rfl, .of ea, rfl, W, x, d1, rfl, h1, _, rfl, ?_⟩
          cases h1 with
          | int i =>
            refine ifF (fun z => nomatch z) ⟨_, rfl, a, _, 1, y, rfl, rfl, .of ea, rfl, W, y, d2, rfl, h2, _, rfl, ?_⟩
            cases h2 with
            | int j =>
              refine ifF (fun z => nomatch z) ⟨_, rfl, a, _, 1, _, rfl, rfl, .of ea, rfl, _, _, rfl, rfl, _, rfl, ite2 (fun hj => ?_) (fun hj => ?_)⟩
              · have j0 : 0 < j := of_decide_eq_true hj
                have hb2 : i.natAbs < 2 ^ n ∧ j.natAbs < 2 ^ n := by
                  have := hb
                  simp only [Bd, BdAll, and_true] at this
                  exact this
                refine ⟨_, rfl, a, _, 0, _, rfl, rfl, .of ea, rfl, _, rfl, a, _, 1, _, rfl, rfl, .of ea, rfl, i, j, n, rfl, j0, hb2.2, by omega, fun p hp => ⟨_, rfl, ?_⟩⟩
                have s1 : Same H (upd H p (.tup [.int (Rat.divInt i j).num, .int (Rat.divInt i j).den])) := same_new hp
                have sh : SeqAt.shaped (.tuple [.int i, .int j]) = true := by
                  unfold SeqAt.shaped
                  simp [PyData.canLay0, PyData.canLayAll0, PyData.depth, PyData.depthAll]
                refine ⟨frD (Rat.divInt i j), .tuple [.int i, .int j], fr_dp ⟨p, rfl, .of upd_same⟩, .tup (.of (s1 _ _ ea)) (.cons (.int _) (.cons (.int _) .nil)), fr_shaped _, sh, ?_⟩
                have e : isFr (.tuple [.int i, .int j]) = PyData.eqv (frD (Rat.divInt i j)) (.tuple [.int i, .int j]) := by
                  have e1 : PyData.eqv (frD (Rat.divInt i j)) (.tuple [.int i, .int j]) = (decide ((Rat.divInt i j).num = i) && decide (((Rat.divInt i j).den : Int) = j)) := by
                    simp [frD, PyData.eqv, PyData.eqvAll]
                    try rfl
                  rw [e1]
                  show (decide (0 < j) && decide (Nat.gcd i.natAbs j.natAbs = 1)) = _
                  rw [hj, Bool.true_and, ← Bool.decide_and]
                  refine decide_eq_decide.mpr ⟨fun z => ?_, fun z => ?_⟩
                  · obtain ⟨r, rfl, rfl⟩ := (Bq.low_iff j0).mp z
                    rw [Bq.num_over]
                    exact ⟨rfl, rfl⟩
                  · exact (Bq.low_iff j0).mpr ⟨_, z.1.symm, z.2.symm⟩
                rw [e] at q
                exact q _ s1
              · have e : isFr (.tuple [.int i, .int j]) = false := by
                  show (decide (0 < j) && decide (Nat.gcd i.natAbs j.natAbs = 1)) = _
                  rw [Bool.eq_false_iff.mpr hj, Bool.false_and]
                rw [e] at q
                exact q H (.refl H)
            | _ => exact ifT rfl (q H (.refl H))
          | _ => exact ifT rfl (q H (.refl H))
    | _ => exact ifT rfl (q H (.refl H))
theorem bd_of {n : Nat} {ds : List PyData} (h : BdAll n ds) {i : Nat} {d : PyData} (e : ds[i]? = some d) : Bd n d := bdAll_iff.mp h d (List.mem_of_getElem? e)
end
end Kx
/-! The law draws a walk. -/
namespace Kx
open PySem PySem.Spec PyProof.Rows L2 Bw
abbrev s_law_ears : Stmt := topS 40
abbrev n_law_ears : List Str := ["well", "many", "left", "known", "found", "turn", "here", "last", "fresh", "step", "there"]
theorem c_law_ears : FnScope n_law_ears ["well", "many"] (defScope s_law_ears) :=
  ⟨rfl, rfl, rfl, by decide +kernel, rfl, by decide +kernel, by decide +kernel⟩


def nats (S : List Nat) : List V := S.map fun k : Nat => V.int k
theorem nats_len (S : List Nat) : (nats S).length = S.length := List.length_map _
theorem nats_get {S : List Nat} {i : Nat} {v : V} (h : (nats S)[i]? = some v) : ∃ k, S[i]? = some k ∧ v = .int (k : Nat) := by
  obtain ⟨k, h1, h2⟩ := map_some h
  exact ⟨k, h1, h2.symm⟩
theorem erase_nats : ∀ (S : List Nat) (i : Nat), (nats S).eraseIdx i = nats (S.eraseIdx i)
  | [], _ => rfl
  | a :: S, 0 => rfl
  | a :: S, i + 1 => congrArg (V.int (a : Nat) :: ·) (erase_nats S i)
theorem seqI {i n : Nat} (h : i < n) : seqIndex? (i : Int) n = some i := by
  rw [seqIndex_of (by omega) (by omega)]
  rfl
/-- the pairs E stand at ts -/
def TupsAt (H : Hp) (ts : List Addr) (E : List (Nat × Nat)) : Prop := ts.length = E.length ∧ ∀ (i : Nat) t e, ts[i]? = some t → E[i]? = some e → H t = some (.tup [.int (e.1 : Nat), .int (e.2 : Nat)])
theorem TupsAt.mono {H H' : Hp} {ts : List Addr} {E : List (Nat × Nat)} (h : TupsAt H ts E) (k : ∀ t xs, H t = some (.tup xs) → H' t = some (.tup xs)) : TupsAt H' ts E := ⟨h.1, fun i t e h1 h2 => k _ _ (h.2 i t e h1 h2)⟩
theorem TupsAt.snoc {H : Hp} {ts : List Addr} {E : List (Nat × Nat)} (h : TupsAt H ts E) {t : Addr} {a b : Nat} (e : H t = some (.tup [.int (a : Nat), .int (b : Nat)])) : TupsAt H (ts ++ [t]) (E ++ [(a, b)]) := by
  refine ⟨by rw [List.length_append, List.length_append, h.1]; rfl, fun i t' e' h1 h2 => ?_⟩
  have hl := h.1
  by_cases c : i < ts.length
  · rw [List.getElem?_append_left c] at h1
    rw [List.getElem?_append_left (by omega)] at h2
    exact h.2 i t' e' h1 h2
  · have hi : i = ts.length := by
      have := (List.getElem?_eq_some_iff.mp h1).1
      rw [List.length_append, List.length_singleton] at this
      omega
    rw [List.getElem?_append_right (by omega), show i - ts.length = 0 by omega] at h1
    rw [List.getElem?_append_right (by omega), show i - E.length = 0 by omega] at h2
    have h1' : t = t' := by simpa using h1
    have h2' : (a, b) = e' := by simpa using h2
    rw [← h1', ← h2']
    exact e
theorem WellAt.frame {w l m : Addr} {o : HO} {H : Hp} (h : WellAt w l H) (h1 : m ≠ w) (h2 : m ≠ l) : WellAt w l (upd H m o) := by
  obtain ⟨st, n, ns, e1, e2, e3, e4⟩ := h
  exact ⟨st, n, ns, by rw [upd_ne (Ne.symm h1)]; exact e1, e2, by rw [upd_ne (Ne.symm h2)]; exact e3, e4⟩
theorem WellAt.new {w l m : Addr} {o : HO} {H : Hp} (h : WellAt w l H) (hm : H m = none) : WellAt w l (upd H m o) := by
  have h' := h
  obtain ⟨st, n, ns, e1, e2, e3, e4⟩ := h'
  exact h.frame (Ne.symm (ne_of_none e1 hm)) (Ne.symm (ne_of_none e3 hm))
theorem WellAt.ne {w l m : Addr} {H : Hp} (h : WellAt w l H) (hm : H m = none) : m ≠ w ∧ m ≠ l := by
  obtain ⟨st, n, ns, e1, e2, e3, e4⟩ := h
  exact ⟨Ne.symm (ne_of_none e1 hm), Ne.symm (ne_of_none e3 hm)⟩
theorem WellAt.notTup {w l : Addr} {H : Hp} {xs : List V} (h : WellAt w l H) {t : Addr} (e : H t = some (.tup xs)) : t ≠ w := by
  obtain ⟨st, n, ns, e1, _⟩ := h
  intro z
  rw [z, e1] at e
  cases e

/-- what stands while ears are laid -/
structure EarH (H0 H : Hp) (w l lA kA fA : Addr) (L Kn : List Nat) (ts : List Addr) (E : List (Nat × Nat)) : Prop where
  kp : Kp (At w) H0 H
  W : WellAt w l H
  eL : H lA = some (.lst (nats L))
  eK : H kA = some (.lst (nats Kn))
  eF : H fA = some (.lst (ts.map V.ref))
  tp : TupsAt H ts E
  n1 : H0 lA = none
  n2 : H0 kA = none
  n3 : H0 fA = none
  a1 : lA ≠ kA
  a2 : lA ≠ fA
  a3 : kA ≠ fA
  b1 : lA ≠ w
  b2 : kA ≠ w
  b3 : fA ≠ w
  c1 : lA ≠ l
  c2 : kA ≠ l
  c3 : fA ≠ l
section
variable {H0 H H' : Hp} {w l l' lA kA fA m t : Addr} {L L' Kn Kn' : List Nat} {ts : List Addr} {E : List (Nat × Nat)} {o : HO}
theorem well_ne {x : Addr} {o : HO} (h : l' = l ∨ H l' = none) (c : x ≠ l) (e : H x = some o) : x ≠ l' := by
  rcases h with h | h
  · rw [h]
    exact c
  · exact ne_of_none e h
theorem EarH.pick (h : EarH H0 H w l lA kA fA L Kn ts E) (k : Kp (At w) H H') (W : WellAt w l' H') (hl : l' = l ∨ H l' = none) : EarH H0 H' w l' lA kA fA L Kn ts E :=
  ⟨h.kp.trans k, W, k _ _ h.b1 h.eL, k _ _ h.b2 h.eK, k _ _ h.b3 h.eF, h.tp.mono fun t xs e => k _ _ (h.W.notTup e) e, h.n1, h.n2, h.n3, h.a1, h.a2, h.a3, h.b1, h.b2, h.b3,
    well_ne hl h.c1 h.eL, well_ne hl h.c2 h.eK, well_ne hl h.c3 h.eF⟩
theorem tup_frame {H : Hp} {m : Addr} {o : HO} (hm : ∀ xs, H m ≠ some (.tup xs)) : ∀ t xs, H t = some (.tup xs) → (upd H m o) t = some (.tup xs) := fun t xs e => by
  rw [upd_ne (fun z => hm xs (by rw [← z]; exact e))]
  exact e
theorem EarH.frame (h : EarH H0 H w l lA kA fA L Kn ts E) (hm : ∀ xs, H m ≠ some (.tup xs)) (m0 : H0 m = none) (h1 : m ≠ w) (h2 : m ≠ l) (h3 : m ≠ lA) (h4 : m ≠ kA) (h5 : m ≠ fA) : EarH H0 (upd H m o) w l lA kA fA L Kn ts E :=
  ⟨h.kp.upd m0, h.W.frame h1 h2, by rw [upd_ne (Ne.symm h3)]; exact h.eL, by rw [upd_ne (Ne.symm h4)]; exact h.eK, by rw [upd_ne (Ne.symm h5)]; exact h.eF, h.tp.mono (tup_frame hm), h.n1, h.n2, h.n3, h.a1, h.a2, h.a3, h.b1, h.b2, h.b3, h.c1, h.c2, h.c3⟩
theorem EarH.free (h : EarH H0 H w l lA kA fA L Kn ts E) (hm : H m = none) : H0 m = none := kp_free h.kp hm (h.W.ne hm).1
theorem EarH.new (h : EarH H0 H w l lA kA fA L Kn ts E) (hm : H m = none) : EarH H0 (upd H m o) w l lA kA fA L Kn ts E :=
  h.frame (fun xs => by rw [hm]; exact fun z => nomatch z) (h.free hm) (h.W.ne hm).1 (h.W.ne hm).2 (Ne.symm (ne_of_none h.eL hm)) (Ne.symm (ne_of_none h.eK hm)) (Ne.symm (ne_of_none h.eF hm))
theorem EarH.setL (h : EarH H0 H w l lA kA fA L Kn ts E) (L' : List Nat) : EarH H0 (upd H lA (.lst (nats L'))) w l lA kA fA L' Kn ts E :=
  ⟨h.kp.upd h.n1, h.W.frame h.b1 h.c1, upd_same, by rw [upd_ne (Ne.symm h.a1)]; exact h.eK, by rw [upd_ne (Ne.symm h.a2)]; exact h.eF, h.tp.mono (tup_frame fun xs => by rw [h.eL]; exact fun z => nomatch z), h.n1, h.n2, h.n3, h.a1, h.a2, h.a3, h.b1, h.b2, h.b3, h.c1, h.c2, h.c3⟩
theorem EarH.setK (h : EarH H0 H w l lA kA fA L Kn ts E) (Kn' : List Nat) : EarH H0 (upd H kA (.lst (nats Kn'))) w l lA kA fA L Kn' ts E :=
  ⟨h.kp.upd h.n2, h.W.frame h.b2 h.c2, by rw [upd_ne h.a1]; exact h.eL, upd_same, by rw [upd_ne (Ne.symm h.a3)]; exact h.eF, h.tp.mono (tup_frame fun xs => by rw [h.eK]; exact fun z => nomatch z), h.n1, h.n2, h.n3, h.a1, h.a2, h.a3, h.b1, h.b2, h.b3, h.c1, h.c2, h.c3⟩
theorem EarH.addF (h : EarH H0 H w l lA kA fA L Kn ts E) {a b : Nat} (e : H t = some (.tup [.int (a : Nat), .int (b : Nat)])) : EarH H0 (upd H fA (.lst (ts.map V.ref ++ [V.ref t]))) w l lA kA fA L Kn (ts ++ [t]) (E ++ [(a, b)]) :=
  have nt : ∀ xs, H fA ≠ some (.tup xs) := fun xs => by rw [h.eF]; exact fun z => nomatch z
  ⟨h.kp.upd h.n3, h.W.frame h.b3 h.c3, by rw [upd_ne h.a2]; exact h.eL, by rw [upd_ne h.a3]; exact h.eK, by rw [upd_same, List.map_append]; rfl, (h.tp.mono (tup_frame nt)).snoc (tup_frame nt _ _ e), h.n1, h.n2, h.n3, h.a1, h.a2, h.a3, h.b1, h.b2, h.b3, h.c1, h.c2, h.c3⟩
theorem EarH.newK (h : EarH H0 H w l lA kA fA L Kn ts E) (hm : H m = none) (Kn' : List Nat) : EarH H0 (upd H m (.lst (nats Kn'))) w l lA m fA L Kn' ts E :=
  have g := h.new (o := .lst (nats Kn')) hm
  ⟨g.kp, g.W, g.eL, upd_same, g.eF, g.tp, h.n1, h.free hm, h.n3, ne_of_none h.eL hm, h.a2, Ne.symm (ne_of_none h.eF hm), h.b1, (h.W.ne hm).1, h.b3, h.c1, (h.W.ne hm).2, h.c3⟩
end

section
variable {P : Program} {w : World} {K : PySem.W.Frag} {mg : Str → Option Value} {base : Heap}
def spEars : Sp := fun vs H Q _ => ∃ (w l : Addr) (n : Nat), vs = [.ref w, .int (n : Nat)] ∧ 1 ≤ n ∧ n ≤ 6 ∧ WellAt w l H ∧
  ∀ (H' : Hp) (l' fA : Addr) (ts : List Addr) (E : List (Nat × Nat)), Kp (At w) H H' → WellAt w l' H' → (l' = l ∨ H l' = none) → H fA = none → fA ≠ w → fA ≠ l' → H' fA = some (.lst (ts.map V.ref)) → TupsAt H' ts E → E.length ≤ 100 →
    (∀ e ∈ E, e.1 < n ∧ e.2 < n) → (∀ a b, a < n → b < n → Reach (Lk E) a b) → Q (.ref fA) H'
theorem ok_ears {f : Addr} {fd : FuncData} (F : Fun K "_law_ears" "_law_ears" s_law_ears f fd) (M : Mb mg) (Dlaw_pick : Df P w K mg base 1 "_law_pick" ["well", "limit"] spPickL)
    (Dlaw_of : Df P w K mg base 2 "_law_of" ["well", "some"] (spOfL K)) : FnOk P w K mg base CX0 3 f fd ["well", "many"] spEars := by
  refine F.ok c_law_ears (fun vs H Q E h => ?_) (fun cdv A outer s H vs Q E hr h => ?_)
  · obtain ⟨w, l, n, rfl, _⟩ := h
    rfl
  · obtain ⟨w, l, n, rfl, n1, n6, hW, q⟩ := h
    have hu := hr.units
    refine ⟨_, (pss_cons (ps_par3 (i := 2) (j := 3) (l := 4) (by rfl) c_law_ears.nd rfl rfl rfl (by decide) (by decide) (by decide) rfl rfl rfl (pa_cons (pe_listRg rfl (by rfl) M.list (prg_1 (by rfl) M.range (pv 1))) (pa_cons (pe_lst pa_nil) (pa_cons (pe_lst pa_nil) pa_nil))) (by rfl))
 (pss_cons (ps_expr (pe_bm PySem.F.plainAttrs_list PySem.F.slot_list_append PySem.F.type_list_append mt_append (pv 3) (pa_cons (pe_bm PySem.F.plainAttrs_list PySem.F.slot_list_pop PySem.F.type_list_pop mt_popAt (pv 2) (pa_cons (pe_call Dlaw_pick.G (hr.mono (by first | decide | omega)) rfl Dlaw_pick.g Dlaw_pick.kp Dlaw_pick.b .nil pass0 (pa_cons (pv 0) (pa_cons (pv 1) pa_nil))) pa_nil)) pa_nil)))
 (pss_cons (ps_for PassesOwn.never rfl (pi_range1 (by rfl) M.range (pa_cons (pv 1) pa_nil)) (pg_name (i := 5) c_law_ears.nd rfl (.inl rfl))
 (pss_cons (ps_if (pt_cmpR (op_eqNil hu) (pv 2) (pe_lst pa_nil) (nomark _))
 (pss_one ps_break)
 pss_nil)
 (pss_cons (ps_par3 (i := 6) (j := 7) (l := 8) (by rfl) c_law_ears.nd rfl rfl rfl (by decide) (by decide) (by decide) rfl rfl rfl (pa_cons (pe_call Dlaw_of.G (hr.mono (by first | decide | omega)) rfl Dlaw_of.g Dlaw_of.kp Dlaw_of.b .nil pass0 (pa_cons (pv 0) (pa_cons (pv 3) pa_nil))) (pa_cons (pe_call Dlaw_of.G (hr.mono (by first | decide | omega)) rfl Dlaw_of.g Dlaw_of.kp Dlaw_of.b .nil pass0 (pa_cons (pv 0) (pa_cons (pv 3) pa_nil))) (pa_cons (pe_lst pa_nil) pa_nil))) (by rfl))
 (pss_cons (ps_for PassesOwn.never rfl (pi_range1 (by rfl) M.range (pa_cons (pe_op op_add pe_int (pe_call Dlaw_pick.G (hr.mono (by first | decide | omega)) rfl Dlaw_pick.g Dlaw_pick.kp Dlaw_pick.b .nil pass0 (pa_cons (pv 0) (pa_cons (pe_callB call_len_seq (by rfl) M.len (by decide +kernel) (pa_cons (pv 2) pa_nil)) pa_nil)))) pa_nil)) (pg_name (i := 9) c_law_ears.nd rfl (.inl rfl))
 (pss_cons (ps_set (i := 10) c_law_ears.nd rfl (.inl rfl) (pe_bm PySem.F.plainAttrs_list PySem.F.slot_list_pop PySem.F.type_list_pop mt_popAt (pv 2) (pa_cons (pe_call Dlaw_pick.G (hr.mono (by first | decide | omega)) rfl Dlaw_pick.g Dlaw_pick.kp Dlaw_pick.b .nil pass0 (pa_cons (pv 0) (pa_cons (pe_callB call_len_seq (by rfl) M.len (by decide +kernel) (pa_cons (pv 2) pa_nil)) pa_nil))) pa_nil)))
 (pss_cons (ps_expr (pe_bm PySem.F.plainAttrs_list PySem.F.slot_list_append PySem.F.type_list_append mt_append (pv 4) (pa_cons (pe_tup (pa_cons (pv 6) (pa_cons (pv 10) pa_nil))) pa_nil)))
 (pss_cons (ps_expr (pe_bm PySem.F.plainAttrs_list PySem.F.slot_list_append PySem.F.type_list_append mt_append (pv 8) (pa_cons (pv 10) pa_nil)))
 (pss_one (ps_set (i := 6) c_law_ears.nd rfl (.inl rfl) (pv 10)))))))
 (pss_cons (ps_expr (pe_bm PySem.F.plainAttrs_list PySem.F.slot_list_append PySem.F.type_list_append mt_append (pv 4) (pa_cons (pe_tup (pa_cons (pv 6) (pa_cons (pv 7) pa_nil))) pa_nil)))
 (pss_one (ps_set (i := 3) c_law_ears.nd rfl (.inl rfl) (pe_op op_cat (pv 3) (pv 8)))))))))
 (pss_one (ps_ret (pv 4)))))), ?_⟩
    refine ⟨_, rfl, _, rfl, ⟨by omega, by omega, by omega, by omega, by omega⟩, fun lA nl => ⟨Nat.zero_le _, fun kA nk => ⟨Nat.zero_le _, fun fA nf => ⟨_, _, _, rfl, ?_⟩⟩⟩⟩
    have rg : rgV 0 (n : Int) = nats (List.range n) := by
      unfold rgV nats
      have e : ((n : Int) - 0).toNat = n := by omega
      rw [e]
      refine List.map_congr_left fun i _ => ?_
      rw [Int.zero_add]
    rw [rg] at nk nf ⊢
    have h0 : EarH H (upd (upd (upd H lA (.lst (nats (List.range n)))) kA (.lst [])) fA (.lst [])) w l lA kA fA (List.range n) [] [] [] := by
      have k1 : Kp (At w) H (upd H lA (.lst (nats (List.range n)))) := Kp.new nl
      have W1 := hW.new (o := .lst (nats (List.range n))) nl
      have W2 := W1.new (o := .lst []) nk
      have W3 := W2.new (o := .lst []) nf
      have e1 : lA ≠ kA := ne_of_none (show (upd H lA (.lst (nats (List.range n)))) lA = some _ from upd_same) nk
      have e2 : kA ≠ fA := ne_of_none (show (upd (upd H lA (.lst (nats (List.range n)))) kA (.lst [])) kA = some _ from upd_same) nf
      have e3 : lA ≠ fA := ne_of_none (show (upd (upd H lA (.lst (nats (List.range n)))) kA (.lst [])) lA = some (.lst (nats (List.range n))) from by rw [upd_ne e1]; exact upd_same) nf
      have nk0 : H kA = none := (same_new nl).free nk
      have nf0 : H fA = none := (same_new nl).free ((same_new nk).free nf)
      exact ⟨(k1.trans (Kp.new nk)).trans (Kp.new nf), W3, by rw [upd_ne e3, upd_ne e1]; exact upd_same, by rw [upd_ne e2]; exact upd_same, upd_same, ⟨rfl, fun i t e h => by simp at h⟩, nl, nk0, nf0, e1, e3, e2,
        (hW.ne nl).1, (hW.ne nk0).1, (hW.ne nf0).1, (hW.ne nl).2, (hW.ne nk0).2, (hW.ne nf0).2⟩
    generalize upd (upd (upd H lA (.lst (nats (List.range n)))) kA (.lst [])) fA (.lst []) = H1 at h0
    -- known.append(left.pop(..))
    refine ⟨_, rfl, .inl ⟨rfl, _, .of h0.eK⟩, _, rfl, .inl ⟨rfl, _, .of h0.eL⟩, _, rfl, _, rfl, w, l, _, rfl, by omega, by omega, h0.W, fun H2 d l2 d0 d1 k2 W2 hl2 => ?_⟩
    have h2 := h0.pick k2 W2 hl2
    have hl2' : l2 = l ∨ H l2 = none := hl2.imp id fun z => kp_free h0.kp z (by
      obtain ⟨_, _, _, _, e, _⟩ := W2
      exact e)
    obtain ⟨i, rfl⟩ : ∃ i : Nat, d = (i : Int) := ⟨d.toNat, by omega⟩
    have hi : i < n := by omega
    have ei : (List.range n)[i]? = some i := List.getElem?_range hi
    refine ⟨lA, _, _, i, .int (i : Nat), rfl, rfl, h2.eL, by omega, by omega, seqI (by rw [nats_len, List.length_range]; exact hi), by unfold nats; rw [List.getElem?_map, ei]; rfl, ?_⟩
    have e3 : (nats (List.range n)).eraseIdx i = nats ((List.range n).eraseIdx i) := by
      exact erase_nats _ _
    rw [e3]
    have h3 := h2.setL ((List.range n).eraseIdx i)
    refine ⟨kA, _, _, rfl, rfl, h3.eK, Nat.lt_of_le_of_lt (Nat.zero_le 0) (by decide), ?_⟩
    have h4 : EarH H (upd (upd H2 lA (.lst (nats ((List.range n).eraseIdx i)))) kA (.lst (nats [] ++ [.int (i : Nat)]))) w l2 lA kA fA ((List.range n).eraseIdx i) [i] [] [] := h3.setK [i]
    generalize upd (upd H2 lA (.lst (nats ((List.range n).eraseIdx i)))) kA (.lst (nats [] ++ [.int (i : Nat)])) = H4 at h4
    have m4 : Ears n [i] ((List.range n).eraseIdx i) [] := by
      have pm := perm_erase (List.range n) i i ei
      refine ⟨pm.nodup_iff.mpr List.nodup_range, ?_, fun x hx => List.mem_range.mp (pm.mem_iff.mp hx), fun e he => by simp at he, fun a ha b hb => ?_, by simp⟩
      · have := pm.length_eq
        rw [List.length_range, List.length_cons] at this
        rw [List.length_singleton]
        omega
      · have h1 : a = i := by simpa using ha
        have h2 : b = i := by simpa using hb
        rw [h1, h2]
        exact .refl
    -- for turn in range(many)
    have fin : ∀ (H' : Hp) (l' kA' : Addr) (Kn : List Nat) (ts : List Addr) (E : List (Nat × Nat)), (l' = l ∨ H l' = none) → EarH H H' w l' lA kA' fA [] Kn ts E → Ears n Kn [] E → E.length ≤ 100 → Q (.ref fA) H' := fun H' l' kA' Kn ts E hl h m hE =>
      q H' l' fA ts E h.kp h.W hl h.n3 h.b3 h.c3 h.eF h.tp hE m.done.1 m.done.2
    refine ⟨_, rfl, _, rfl, by omega, by omega, ?_⟩
    refine for_range (lo := 0) (n := n) (fun t σ H' => ∃ l' kA' L Kn ts E y5 y6 y7 y8 y9 y10, σ = [some (.ref w), some (.int (n : Nat)), some (.ref lA), some (.ref kA'), some (.ref fA), y5, y6, y7, y8, y9, y10] ∧ (l' = l ∨ H l' = none) ∧
        EarH H H' w l' lA kA' fA L Kn ts E ∧ Ears n Kn L E ∧ L.length ≤ n - 1 - t ∧ E.length + 2 * L.length ≤ 2 * n)
      ⟨l2, kA, _, _, _, _, _, _, _, _, _, _, rfl, hl2', h4, m4, ?_, ?_⟩ ?_ ?_
    · have := m4.len
      simp at this
      omega
    · have := m4.len
      simp at this ⊢
      omega
    · rintro t σ H5 ht ⟨l5, k5, L, Kn, ts, E, y5, y6, y7, y8, y9, y10, rfl, hl5, h5, m5, hL5, hE5⟩
      have e0 : (0 : Int) + ((t : Nat) : Int) = ((t : Nat) : Int) := by omega
      rw [e0]
      -- if left == []: break
      refine ⟨_, rfl, Nat.zero_le _, fun b nb => ?_⟩
      have h6 := h5.new (o := .lst []) nb
      refine ⟨lA, b, _, rfl, rfl, .of h6.eL, .of upd_same, _, rfl, ?_⟩
      generalize upd H5 b (.lst []) = H6 at h6
      cases L with
      | nil =>
        refine ifT rfl ?_
        exact ⟨_, rfl, fin H6 l5 k5 Kn ts E hl5 h6 m5 (by simp at hE5; omega)⟩
      | cons x0 L0 =>
        refine ifF (fun z => nomatch z) ?_
        have hLp : 0 < (x0 :: L0).length := Nat.succ_pos _
        generalize x0 :: L0 = L at h6 m5 hL5 hE5 hLp
        have knp : 0 < Kn.length := List.length_pos_iff.mpr m5.ne
        have hlen := m5.len
        refine ⟨_, rfl, _, rfl, w, l5, k5, _, rfl, h6.W, h6.b2, .inl (.of h6.eK), by rw [nats_len]; exact knp, by rw [nats_len]; omega, fun H7 i1 v1 l7 e1 k7 W7 hl7 => ?_⟩
        have h7 := h6.pick k7 W7 hl7
        refine ⟨_, rfl, _, rfl, w, l7, k5, _, rfl, h7.W, h7.b2, .inl (.of h7.eK), by rw [nats_len]; exact knp, by rw [nats_len]; omega, fun H8 i2 v2 l8 e2 k8 W8 hl8 => ⟨Nat.zero_le _, fun r nr => ⟨_, _, _, rfl, ?_⟩⟩⟩
        have h8 := h7.pick k8 W8 hl8
        obtain ⟨cur, hcur, rfl⟩ := nats_get e1
        obtain ⟨last, hlast, rfl⟩ := nats_get e2
        have hcm := List.mem_of_getElem? hcur
        have hlm := List.mem_of_getElem? hlast
        have up : ∀ {H' H'' : Hp} {a b c : Addr}, (a = l ∨ H a = none) → (b = a ∨ H' b = none) → Kp (At w) H H' → WellAt w b H'' → (b = l ∨ H b = none) := fun {H' H'' a b c} ha hb k W => by
          rcases hb with hb | hb
          · rw [hb]
            exact ha
          · exact .inr (kp_free k hb (by
              obtain ⟨_, _, _, _, e, _⟩ := W
              exact e))
        have q7 := up (c := w) hl5 hl7 h6.kp W7
        have q8 := up (c := w) q7 hl8 h7.kp W8
        have h9 := h8.new (o := .lst []) nr
        have er9 : (upd H8 r (.lst [])) r = some (.lst (nats [])) := upd_same
        have r0 := h8.free nr
        have rw8 := h8.W.ne nr
        have rL := Ne.symm (ne_of_none h8.eL nr)
        have rK := Ne.symm (ne_of_none h8.eK nr)
        have rF := Ne.symm (ne_of_none h8.eF nr)
        generalize upd H8 r (.lst []) = H9 at h9 er9
        refine ⟨_, rfl, _, rfl, lA, _, rfl, .inl (.of h9.eL), w, l8, _, rfl, by rw [nats_len]; omega, by rw [nats_len]; omega, h9.W, fun H10 d10 l10 dl du k10 W10 hl10 => ?_⟩
        rw [nats_len] at du
        have h10 := h9.pick k10 W10 hl10
        have q10 := up (c := w) q8 hl10 h9.kp W10
        have er10 := k10 _ _ rw8.1 er9
        have rl10 : r ≠ l10 := well_ne hl10 rw8.2 er9
        obtain ⟨d, rfl⟩ : ∃ d : Nat, d10 = (d : Int) := ⟨d10.toNat, by omega⟩
        refine ⟨_, _, rfl, rfl, _, rfl, by omega, by omega, ?_⟩
        have ed : ((1 : Int) + (d : Int)).toNat = 1 + d := by omega
        rw [ed]
        have hdL : 1 + d ≤ L.length := by omega
        refine for_range (lo := 0) (n := 1 + d) (fun s σ H' => ∃ l' L' Fr ts' E' cur' y9 y10, σ = [some (.ref w), some (.int (n : Nat)), some (.ref lA), some (.ref k5), some (.ref fA), some (.int (t : Nat)), some (.int (cur' : Nat)), some (.int (last : Nat)), some (.ref r), y9, y10] ∧
            (l' = l ∨ H l' = none) ∧ EarH H H' w l' lA k5 fA L' Kn ts' E' ∧ Ear n Kn Fr L' E' cur' ∧ H' r = some (.lst (nats Fr)) ∧ r ≠ l' ∧ L'.length + s = L.length ∧ E'.length = E.length + s ∧ Fr.length = s)
          ⟨l10, L, [], ts, E, cur, y9, y10, rfl, q10, h10, m5.start hcm, er10, rl10, rfl, rfl, rfl⟩ ?_ ?_
        · rintro s σ H11 hs ⟨l11, L11, Fr, ts11, E11, c11, z9, z10, rfl, q11, h11, m11, er11, rl11, sL, sE, sF⟩
          have es : (0 : Int) + ((s : Nat) : Int) = ((s : Nat) : Int) := by omega
          rw [es]
          refine ⟨_, rfl, .inl ⟨rfl, _, .of h11.eL⟩, _, rfl, _, rfl, lA, _, rfl, .inl (.of h11.eL), w, l11, _, rfl, by rw [nats_len]; omega, by rw [nats_len]; omega, h11.W, fun H12 d12 l12 dl12 du12 k12 W12 hl12 => ?_⟩
          rw [nats_len] at du12
          have h12 := h11.pick k12 W12 hl12
          have q12 := up (c := w) q11 hl12 h11.kp W12
          have er12 := k12 _ _ rw8.1 er11
          have rl12 : r ≠ l12 := well_ne hl12 rl11 er11
          obtain ⟨i, rfl⟩ : ∃ i : Nat, d12 = (i : Int) := ⟨d12.toNat, by omega⟩
          have hi12 : i < L11.length := by omega
          have ei12 : L11[i]? = some L11[i] := List.getElem?_eq_getElem hi12
          generalize hxx : L11[i] = x at ei12
          refine ⟨lA, _, _, i, .int (x : Nat), rfl, rfl, h12.eL, by omega, by omega, seqI (by rw [nats_len]; exact hi12), by unfold nats; rw [List.getElem?_map, ei12]; rfl, ?_⟩
          rw [erase_nats]
          have h13 := h12.setL (L11.eraseIdx i)
          have er13 : (upd H12 lA (.lst (nats (L11.eraseIdx i)))) r = some (.lst (nats Fr)) := by rw [upd_ne rL]; exact er12
          generalize upd H12 lA (.lst (nats (L11.eraseIdx i))) = H13 at h13 er13
          refine ⟨_, rfl, .inl ⟨rfl, _, .of h13.eF⟩, _, rfl, _, rfl, sz63 (by show 2 ≤ 1000; decide), fun p np => ?_⟩
          have h14 := h13.new (o := .tup [.int (c11 : Nat), .int (x : Nat)]) np
          have er14 : (upd H13 p (.tup [.int (c11 : Nat), .int (x : Nat)])) r = some (.lst (nats Fr)) := by rw [upd_ne (ne_of_none er13 np)]; exact er13
          have ep14 : (upd H13 p (.tup [.int (c11 : Nat), .int (x : Nat)])) p = some (.tup [.int (c11 : Nat), .int (x : Nat)]) := upd_same
          generalize upd H13 p (.tup [.int (c11 : Nat), .int (x : Nat)]) = H14 at h14 er14 ep14
          have tl := h14.tp.1
          refine ⟨fA, _, _, rfl, rfl, h14.eF, by rw [List.length_map]; exact sz63' (by omega), ?_⟩
          have h15 := h14.addF ep14
          have er15 : (upd H14 fA (.lst (ts11.map V.ref ++ [V.ref p]))) r = some (.lst (nats Fr)) := by rw [upd_ne rF]; exact er14
          generalize upd H14 fA (.lst (ts11.map V.ref ++ [V.ref p])) = H15 at h15 er15
          refine ⟨_, rfl, .inl ⟨rfl, _, .of er15⟩, _, rfl, r, _, _, rfl, rfl, er15, by rw [nats_len]; exact sz63' (by omega), ?_⟩
          have h16 := h15.frame (m := r) (o := .lst (nats Fr ++ [.int (x : Nat)])) (fun xs => by rw [er15]; exact fun z => nomatch z) r0 rw8.1 rl12 rL rK rF
          have le := (perm_erase L11 i x ei12).length_eq
          rw [List.length_cons] at le
          refine ⟨_, rfl, l12, L11.eraseIdx i, Fr ++ [x], _, _, x, _, _, rfl, q12, h16, m11.step ei12, by rw [upd_same]; unfold nats; rw [List.map_append]; rfl, rl12, by omega, by rw [List.length_append, List.length_singleton]; omega, by rw [List.length_append, List.length_singleton]; omega⟩
        · rintro σ H11 ⟨l11, L11, Fr, ts11, E11, c11, z9, z10, rfl, q11, h11, m11, er11, rl11, sL, sE, sF⟩
          refine ⟨_, rfl, .inl ⟨rfl, _, .of h11.eF⟩, _, rfl, _, rfl, sz63 (by show 2 ≤ 1000; decide), fun p np => ?_⟩
          have h14 := h11.new (o := .tup [.int (c11 : Nat), .int (last : Nat)]) np
          have er14 : (upd H11 p (.tup [.int (c11 : Nat), .int (last : Nat)])) r = some (.lst (nats Fr)) := by rw [upd_ne (ne_of_none er11 np)]; exact er11
          have ep14 : (upd H11 p (.tup [.int (c11 : Nat), .int (last : Nat)])) p = some (.tup [.int (c11 : Nat), .int (last : Nat)]) := upd_same
          generalize upd H11 p (.tup [.int (c11 : Nat), .int (last : Nat)]) = H14 at h14 er14 ep14
          have tl := h14.tp.1
          refine ⟨fA, _, _, rfl, rfl, h14.eF, by rw [List.length_map]; exact sz63' (by omega), ?_⟩
          have h15 := h14.addF ep14
          have er15 : (upd H14 fA (.lst (ts11.map V.ref ++ [V.ref p]))) r = some (.lst (nats Fr)) := by rw [upd_ne rF]; exact er14
          generalize upd H14 fA (.lst (ts11.map V.ref ++ [V.ref p])) = H15 at h15 er15
          have m15 := m11.close hlm
          refine ⟨_, rfl, _, rfl, k5, r, _, _, rfl, rfl, h15.eK, er15, sz63 (by rw [nats_len, nats_len]; omega), fun b nb => ?_⟩
          have h16 := h15.newK nb (Kn ++ Fr)
          have en : nats Kn ++ nats Fr = nats (Kn ++ Fr) := by
            unfold nats
            rw [List.map_append]
          rw [en]
          refine ⟨l11, b, L11, Kn ++ Fr, _, _, _, _, _, _, _, _, rfl, q11, h16, m15, by omega, ?_⟩
          rw [List.length_append, List.length_singleton]
          omega
    · rintro σ H5 ⟨l5, k5, L, Kn, ts, E, y5, y6, y7, y8, y9, y10, rfl, hl5, h5, m5, hL5, hE5⟩
      have hL : L = [] := List.eq_nil_of_length_eq_zero (by omega)
      subst hL
      exact ⟨_, rfl, fin H5 l5 k5 Kn ts E hl5 h5 m5 (by simp at hE5; omega)⟩
end
end Kx
/-! The law draws a walk. -/
namespace Kx
open PySem PySem.Spec PyProof.Rows L2 Bw
abbrev s_law_part : Stmt := topS 41
abbrev n_law_part : List Str := ["well", "way"]
theorem c_law_part : FnScope n_law_part ["well"] (defScope s_law_part) :=
  ⟨rfl, rfl, rfl, by decide +kernel, rfl, by decide +kernel, by decide +kernel⟩

abbrev s_law_walk : Stmt := topS 42
abbrev n_law_walk : List Str := ["well", "many", "steps", "rows", "turn", "here", "there", "row"]
theorem c_law_walk : FnScope n_law_walk ["well", "many"] (defScope s_law_walk) :=
  ⟨rfl, rfl, rfl, by decide +kernel, rfl, by decide +kernel, by decide +kernel⟩

section
variable {P : Program} {w : World} {K : PySem.W.Frag} {mg : Str → Option Value} {base : Heap}
def spPart : Sp := fun vs H Q _ => ∃ (w l : Addr), vs = [.ref w] ∧ WellAt w l H ∧
  ∀ (H' : Hp) (l' p : Addr) (k : Nat), 0 < k → k < 2 ^ 20 → Kp (At w) H H' → WellAt w l' H' → (l' = l ∨ H l' = none) → H p = none → p ≠ w → H' p = some (.tup [.int (k : Nat), .int 1]) → Q (.ref p) H'
theorem ok_part {f : Addr} {fd : FuncData} (F : Fun K "_law_part" "_law_part" s_law_part f fd) (M : Mb mg) (Dlaw_pick : Df P w K mg base 1 "_law_pick" ["well", "limit"] spPickL) : FnOk P w K mg base CX0 2 f fd ["well"] spPart := by
  refine F.ok c_law_part (fun vs H Q E h => ?_) (fun cdv A outer s H vs Q E hr h => ?_)
  · obtain ⟨w, l, rfl, _⟩ := h
    rfl
  · obtain ⟨w, l, rfl, hW, q⟩ := h
    refine ⟨_, (pss_cons (ps_set (i := 1) c_law_part.nd rfl (.inl rfl) (pe_call Dlaw_pick.G (hr.mono (by first | decide | omega)) rfl Dlaw_pick.g Dlaw_pick.kp Dlaw_pick.b .nil pass0 (pa_cons (pv 0) (pa_cons pe_int pa_nil))))
 (pss_one (ps_ret (pe_ifExp (pt_cmpR op_lt (pv 1) pe_int (nomark _)) (pe_tup (pa_cons (pe_ix ix_tup (pe_tup (pa_cons pe_int (pa_cons pe_int (pa_cons pe_int (pa_cons pe_int (pa_cons pe_int (pa_cons pe_int pa_nil))))))) (pe_op op_mod (pe_callTy call_int1 (by rfl) M.int (by decide +kernel) (pa_cons (pv 1) pa_nil)) pe_int) (fun _ _ => rfl)) (pa_cons pe_int pa_nil))) (pe_tup (pa_cons (pe_op op_add pe_int (pe_call Dlaw_pick.G (hr.mono (by first | decide | omega)) rfl Dlaw_pick.g Dlaw_pick.kp Dlaw_pick.b .nil pass0 (pa_cons (pv 0) (pa_cons pe_int pa_nil)))) (pa_cons pe_int pa_nil))))))), ?_⟩
    refine ⟨_, rfl, w, l, _, rfl, by omega, by omega, hW, fun H1 d l1 d0 d1 k1 W1 hl1 => ?_⟩
    obtain ⟨i, rfl⟩ : ∃ i : Nat, d = (i : Int) := ⟨d.toNat, by omega⟩
    refine ⟨_, rfl, _, _, rfl, rfl, _, rfl, ite2 (fun c => ?_) (fun c => ?_)⟩
    · refine ⟨sz63 (by show 6 ≤ 1000; decide), fun t nt => ⟨_, rfl, .inl ⟨_, rfl, ?_⟩⟩⟩
      obtain ⟨j, hj, ej⟩ : ∃ j : Nat, j < 6 ∧ (i : Int) % 6 = (j : Int) := ⟨i % 6, Nat.mod_lt _ (by omega), rfl⟩
      have g : ∃ k : Nat, 0 < k ∧ k < 5 ∧ ([.int 1, .int 2, .int 3, .int 1, .int 4, .int 2] : List V)[j]? = some (.int (k : Nat)) := by
        match j, hj with
        | 0, _ => exact ⟨1, by omega, by omega, rfl⟩
        | 1, _ => exact ⟨2, by omega, by omega, rfl⟩
        | 2, _ => exact ⟨3, by omega, by omega, rfl⟩
        | 3, _ => exact ⟨1, by omega, by omega, rfl⟩
        | 4, _ => exact ⟨4, by omega, by omega, rfl⟩
        | 5, _ => exact ⟨2, by omega, by omega, rfl⟩
      obtain ⟨k, k0, k5, ek⟩ := g
      refine ⟨_, _, rfl, rfl, (by show (0 : Int) < 6; decide), t, _, _, .int (k : Nat), rfl, rfl, .of upd_same, by rw [ej]; exact atI_nat ek, sz63 (by show 2 ≤ 1000; decide), fun p np => ?_⟩
      have np1 : H1 p = none := (same_new nt).free np
      refine q _ l1 p k k0 (by omega) ((k1.trans (Kp.new nt)).trans (Kp.new np)) ((W1.new nt).new np) hl1 (kp_free k1 np1 (W1.ne np1).1) (W1.ne np1).1 upd_same
    · refine ⟨_, rfl, w, l1, _, rfl, by omega, by omega, W1, fun H2 e l2 e0 e1 k2 W2 hl2 => ?_⟩
      obtain ⟨j, rfl⟩ : ∃ j : Nat, e = (j : Int) := ⟨e.toNat, by omega⟩
      refine ⟨_, _, rfl, rfl, sz63 (by show 2 ≤ 1000; decide), fun p np => ?_⟩
      have ej : (1 : Int) + (j : Int) = ((1 + j : Nat) : Int) := by omega
      have hl : l2 = l ∨ H l2 = none := by
        rcases hl2 with h | h
        · rw [h]
          exact hl1
        · exact .inr (kp_free k1 h (by
            obtain ⟨_, _, _, _, e, _⟩ := W2
            exact e))
      have k12 := k1.trans k2
      refine q _ l2 p (1 + j) (by omega) (by omega) (k12.trans (Kp.new np)) (W2.new np) hl (kp_free k12 np (W2.ne np).1) (W2.ne np).1 ?_
      rw [upd_same]
      dsimp only
      rw [ej]
/-- a row of whole numbers, each as a fraction -/
def RowAt (H : Hp) (r : Addr) (row : List Nat) : Prop := ∃ xs, H r = some (.lst xs) ∧ xs.length = row.length ∧ ∀ (j : Nat) v k, xs[j]? = some v → row[j]? = some k → ∃ p, v = .ref p ∧ H p = some (.tup [.int (k : Nat), .int 1])
theorem RowAt.mono {H H' : Hp} {r : Addr} {row : List Nat} (h : RowAt H r row) (k : ∀ xs, H r = some (.lst xs) → H' r = some (.lst xs)) (t : ∀ t xs, H t = some (.tup xs) → H' t = some (.tup xs)) : RowAt H' r row := by
  obtain ⟨xs, e, l, a⟩ := h
  refine ⟨xs, k xs e, l, fun j v n h1 h2 => ?_⟩
  obtain ⟨p, rfl, ep⟩ := a j v n h1 h2
  exact ⟨p, rfl, t _ _ ep⟩
structure WkH (H0 H : Hp) (w l fA rA : Addr) (rs : List Addr) (M : List (List Nat)) (ts : List Addr) (E : List (Nat × Nat)) : Prop where
  kp : Kp (At w) H0 H
  W : WellAt w l H
  eF : H fA = some (.lst (ts.map V.ref))
  tp : TupsAt H ts E
  eR : H rA = some (.lst (rs.map V.ref))
  nd : ∀ (i j : Nat) r, rs[i]? = some r → rs[j]? = some r → i = j
  len : rs.length = M.length
  rows : ∀ (i : Nat) r row, rs[i]? = some r → M[i]? = some row → RowAt H r row
  n1 : H0 fA = none
  n2 : H0 rA = none
  n3 : ∀ r ∈ rs, H0 r = none
  a1 : fA ≠ w
  a2 : rA ≠ w
  a3 : rA ≠ fA
  b : ∀ r ∈ rs, r ≠ w ∧ r ≠ fA ∧ r ≠ rA ∧ r ≠ l
  c1 : fA ≠ l
  c2 : rA ≠ l
section
variable {H0 H H' : Hp} {w l l' fA rA m t p : Addr} {rs ts : List Addr} {M : List (List Nat)} {E : List (Nat × Nat)} {o : HO}
theorem WkH.row (h : WkH H0 H w l fA rA rs M ts E) {i : Nat} {r : Addr} (e : rs[i]? = some r) : ∃ row, M[i]? = some row ∧ RowAt H r row := by
  have hi := (List.getElem?_eq_some_iff.mp e).1
  have hl := h.len
  have e2 : M[i]? = some (M[i]'(by omega)) := List.getElem?_eq_getElem (by omega)
  exact ⟨_, e2, h.rows i r _ e e2⟩
theorem WkH.lst (h : WkH H0 H w l fA rA rs M ts E) {r : Addr} (m : r ∈ rs) : ∃ xs, H r = some (.lst xs) := by
  obtain ⟨i, e⟩ := List.mem_iff_getElem?.mp m
  obtain ⟨row, _, xs, ex, _⟩ := h.row e
  exact ⟨xs, ex⟩
theorem WkH.pick (h : WkH H0 H w l fA rA rs M ts E) (k : Kp (At w) H H') (W : WellAt w l' H') (hl : l' = l ∨ H l' = none) : WkH H0 H' w l' fA rA rs M ts E :=
  have tup : ∀ t xs, H t = some (.tup xs) → H' t = some (.tup xs) := fun t xs e => k _ _ (h.W.notTup e) e
  ⟨h.kp.trans k, W, k _ _ h.a1 h.eF, h.tp.mono tup, k _ _ h.a2 h.eR, h.nd, h.len, fun i r row e1 e2 => (h.rows i r row e1 e2).mono (fun xs e => k _ _ (h.b r (List.mem_of_getElem? e1)).1 e) tup, h.n1, h.n2, h.n3, h.a1, h.a2, h.a3,
    fun r hr => ⟨(h.b r hr).1, (h.b r hr).2.1, (h.b r hr).2.2.1, by
      obtain ⟨xs, e⟩ := h.lst hr
      exact well_ne hl (h.b r hr).2.2.2 e⟩, well_ne hl h.c1 h.eF, well_ne hl h.c2 h.eR⟩
theorem WkH.new (h : WkH H0 H w l fA rA rs M ts E) (hm : H m = none) : WkH H0 (upd H m o) w l fA rA rs M ts E :=
  have s := same_new (o := o) hm
  ⟨h.kp.trans (Kp.new hm), h.W.new hm, s _ _ h.eF, h.tp.mono fun t xs e => s _ _ e, s _ _ h.eR, h.nd, h.len, fun i r row e1 e2 => (h.rows i r row e1 e2).mono (fun xs e => s _ _ e) fun t xs e => s _ _ e, h.n1, h.n2, h.n3, h.a1, h.a2, h.a3, h.b, h.c1, h.c2⟩
theorem WkH.addF (h : WkH H0 H w l fA rA rs M ts E) {a b : Nat} (e : H t = some (.tup [.int (a : Nat), .int (b : Nat)])) : WkH H0 (upd H fA (.lst (ts.map V.ref ++ [V.ref t]))) w l fA rA rs M (ts ++ [t]) (E ++ [(a, b)]) :=
  have nt : ∀ xs, H fA ≠ some (.tup xs) := fun xs => by rw [h.eF]; exact fun z => nomatch z
  ⟨h.kp.upd h.n1, h.W.frame h.a1 h.c1, by rw [upd_same, List.map_append]; rfl, (h.tp.mono (tup_frame nt)).snoc (tup_frame nt _ _ e), by rw [upd_ne h.a3]; exact h.eR, h.nd, h.len,
    fun i r row e1 e2 => (h.rows i r row e1 e2).mono (fun xs e => by rw [upd_ne (h.b r (List.mem_of_getElem? e1)).2.1]; exact e) (tup_frame nt), h.n1, h.n2, h.n3, h.a1, h.a2, h.a3, h.b, h.c1, h.c2⟩
theorem WkH.setCell (h : WkH H0 H w l fA rA rs M ts E) {a b k : Nat} {r : Addr} {row : List Nat} {xs : List V} (e1 : rs[a]? = some r) (e2 : M[a]? = some row) (ex : H r = some (.lst xs)) (ep : H p = some (.tup [.int (k : Nat), .int 1])) :
    WkH H0 (upd H r (.lst (xs.set b (.ref p)))) w l fA rA rs (M.set a (row.set b k)) ts E := by
  have hr := List.mem_of_getElem? e1
  obtain ⟨b1, b2, b3, b4⟩ := h.b r hr
  have nt : ∀ xs, H r ≠ some (.tup xs) := fun xs => by rw [ex]; exact fun z => nomatch z
  obtain ⟨xs', ex', hl, ha⟩ := h.rows a r row e1 e2
  rw [ex] at ex'
  cases ex'
  refine ⟨h.kp.upd (h.n3 r hr), h.W.frame b1 b4, by rw [upd_ne (Ne.symm b2)]; exact h.eF, h.tp.mono (tup_frame nt), by rw [upd_ne (Ne.symm b3)]; exact h.eR, h.nd, by rw [List.length_set]; exact h.len, fun i r' row' f1 f2 => ?_,
    h.n1, h.n2, h.n3, h.a1, h.a2, h.a3, h.b, h.c1, h.c2⟩
  by_cases c : a = i
  · subst c
    rw [e1] at f1
    obtain rfl := Option.some.inj f1
    have ha2 := (List.getElem?_eq_some_iff.mp e2).1
    rw [List.getElem?_set_self (by omega)] at f2
    obtain rfl := Option.some.inj f2
    refine ⟨_, upd_same, by rw [List.length_set, List.length_set, hl], fun j v n g1 g2 => ?_⟩
    by_cases cj : b = j
    · subst cj
      have l1 := (List.getElem?_eq_some_iff.mp g1).1
      have l2 := (List.getElem?_eq_some_iff.mp g2).1
      rw [List.length_set] at l1 l2
      rw [List.getElem?_set_self l1] at g1
      rw [List.getElem?_set_self l2] at g2
      obtain rfl := Option.some.inj g1
      obtain rfl := Option.some.inj g2
      exact ⟨p, rfl, tup_frame nt _ _ ep⟩
    · rw [List.getElem?_set_ne cj] at g1 g2
      obtain ⟨p', rfl, e⟩ := ha j v n g1 g2
      exact ⟨p', rfl, tup_frame nt _ _ e⟩
  · rw [List.getElem?_set_ne c] at f2
    have ne : r' ≠ r := fun z => c (h.nd a i r e1 (by rw [← z]; exact f1))
    exact (h.rows i r' row' f1 f2).mono (fun xs e => by rw [upd_ne ne]; exact e) (tup_frame nt)
end
theorem ixNat {n j : Nat} (hj : j < n) : ixN n (j : Int) = some j := by
  unfold ixN
  rw [if_pos (by omega), if_pos (by omega)]
  rfl
/-- rows that are walked by E, none of them of nothing -/
structure Good (n : Nat) (M : List (List Nat)) : Prop where
  l : M.length = n
  r : ∀ row ∈ M, row.length = n
  k : ∀ row ∈ M, ∀ x ∈ row, x < 2 ^ 20
def Pos (M : List (List Nat)) (a b : Nat) : Prop := ∃ row k, M[a]? = some row ∧ row[b]? = some k ∧ 0 < k
/-- a walk is drawn -/
def spDraw : Sp := fun vs H Q _ => ∃ (w l : Addr) (n : Nat), vs = [.ref w, .int (n : Nat)] ∧ 1 ≤ n ∧ n ≤ 6 ∧ WellAt w l H ∧
  ∀ (H' : Hp) (l' : Addr) (v : V) (m : List (List Rat)), Kp (At w) H H' → WellAt w l' H' → (l' = l ∨ H l' = none) → Dq (At w) H' v (tabD m) → Tab m → m.length = n → Strong m → (∀ r ∈ m, Bq.sumQ r = 1) → (∀ r ∈ m, ∀ q ∈ r, Bq.Sz 160 q) →
    (∃ M : List (List Nat), m = walkM M ∧ Good n M ∧ (∀ row ∈ M, ∃ k ∈ row, 0 < k) ∧ ∀ a b, a < n → b < n → Reach (Pos M) a b) → Q v H'
theorem Good.set {n a b k : Nat} {M : List (List Nat)} {row : List Nat} (h : Good n M) (e : M[a]? = some row) (hk : k < 2 ^ 20) : Good n (M.set a (row.set b k)) := by
  refine ⟨by rw [List.length_set]; exact h.l, fun x hx => ?_, fun x hx y hy => ?_⟩
  · rcases List.mem_or_eq_of_mem_set hx with hx | rfl
    · exact h.r x hx
    · rw [List.length_set]
      exact h.r row (List.mem_of_getElem? e)
  · rcases List.mem_or_eq_of_mem_set hx with hx | rfl
    · exact h.k x hx y hy
    · rcases List.mem_or_eq_of_mem_set hy with hy | rfl
      · exact h.k row (List.mem_of_getElem? e) y hy
      · exact hk
theorem reach_out {E : List (Nat × Nat)} {a b : Nat} (h : Reach (Lk E) a b) (ne : a ≠ b) : ∃ c, (a, c) ∈ E := by
  induction h with
  | refl => exact absurd rfl ne
  | step h e ih =>
    rename_i b c
    by_cases z : a = b
    · rw [z]
      exact ⟨_, e⟩
    · exact ih z
theorem Pos.set {a b k x y n : Nat} {M : List (List Nat)} {row : List Nat} (g : Good n M) (e : M[a]? = some row) (hk : 0 < k) (hb : b < n) (h : Pos M x y ∨ (x = a ∧ y = b)) : Pos (M.set a (row.set b k)) x y := by
  have ha := (List.getElem?_eq_some_iff.mp e).1
  have hl := g.r row (List.mem_of_getElem? e)
  by_cases c : a = x
  · subst c
    refine ⟨row.set b k, ?_⟩
    rw [List.getElem?_set_self ha]
    by_cases c2 : b = y
    · subst c2
      exact ⟨k, rfl, List.getElem?_set_self (by omega), hk⟩
    · rcases h with ⟨row', k', h1, h2, h3⟩ | ⟨_, h⟩
      · rw [e] at h1
        obtain rfl := Option.some.inj h1
        exact ⟨k', rfl, by rw [List.getElem?_set_ne c2]; exact h2, h3⟩
      · exact absurd h.symm c2
  · rcases h with ⟨row', k', h1, h2, h3⟩ | ⟨h, _⟩
    · exact ⟨row', k', by rw [List.getElem?_set_ne c]; exact h1, h2, h3⟩
    · exact absurd h.symm c
theorem ok_ldraw {f : Addr} {fd : FuncData} (F : Fun K "_law_walk" "_law_walk" s_law_walk f fd) (M : Mb mg) (Dlaw_pick : Df P w K mg base 1 "_law_pick" ["well", "limit"] spPickL)
    (Dlaw_ears : Df P w K mg base 3 "_law_ears" ["well", "many"] spEars) (Dlaw_part : Df P w K mg base 2 "_law_part" ["well"] spPart) (Dlaw_over_sum : Df P w K mg base 4 "_law_over_sum" ["row"] (spOverSum K)) :
    FnOk P w K mg base CX0 5 f fd ["well", "many"] spDraw := by
  refine F.ok c_law_walk (fun vs H Q E h => ?_) (fun cdv A outer s H vs Q E hr h => ?_)
  · obtain ⟨w, l, n, rfl, _⟩ := h
    rfl
  · obtain ⟨w, l, n, rfl, n1, n6, hW, q⟩ := h
    have hu := hr.units
    refine ⟨_, (pss_cons (ps_par (i := 2) (j := 3) (by rfl) c_law_walk.nd rfl rfl (by decide) rfl rfl (pa_cons (pe_call Dlaw_ears.G (hr.mono (by first | decide | omega)) rfl Dlaw_ears.g Dlaw_ears.kp Dlaw_ears.b .nil pass0 (pa_cons (pv 0) (pa_cons (pv 1) pa_nil))) (pa_cons (pe_lc (own := [("turn", 4)]) rfl c_law_walk.nd (pi_range1 (by rfl) M.range (pa_cons (pv 1) pa_nil)) (blkOk_by (own := [("turn", 4)]) (N := n_law_walk) (sc := defScope s_law_walk) (by decide +kernel)) (fun _ _ _ _ _ => (pg_name (i := 4) c_law_walk.nd rfl (.inl rfl))) (fun _ _ _ _ _ => pts_nil) (fun _ _ _ _ _ => (pe_op op_rep (pe_lst (pa_cons (pe_tup (pa_cons pe_int (pa_cons pe_int pa_nil))) pa_nil)) (pv 1)))) pa_nil)) (by rfl))
 (pss_cons (ps_for PassesOwn.never rfl (pi_range1 (by rfl) M.range (pa_cons (pe_call Dlaw_pick.G (hr.mono (by first | decide | omega)) rfl Dlaw_pick.g Dlaw_pick.kp Dlaw_pick.b .nil pass0 (pa_cons (pv 0) (pa_cons (pe_op op_mul pe_int (pv 1)) pa_nil))) pa_nil)) (pg_name (i := 4) c_law_walk.nd rfl (.inl rfl))
 (pss_cons (ps_set (i := 5) c_law_walk.nd rfl (.inl rfl) (pe_call Dlaw_pick.G (hr.mono (by first | decide | omega)) rfl Dlaw_pick.g Dlaw_pick.kp Dlaw_pick.b .nil pass0 (pa_cons (pv 0) (pa_cons (pv 1) pa_nil))))
 (pss_one (ps_expr (pe_bm PySem.F.plainAttrs_list PySem.F.slot_list_append PySem.F.type_list_append mt_append (pv 2) (pa_cons (pe_tup (pa_cons (pv 5) (pa_cons (pe_call Dlaw_pick.G (hr.mono (by first | decide | omega)) rfl Dlaw_pick.g Dlaw_pick.kp Dlaw_pick.b .nil pass0 (pa_cons (pv 0) (pa_cons (pv 1) pa_nil))) pa_nil))) pa_nil))))))
 (pss_cons (ps_if (pt_cmpR op_eq (pv 1) pe_int (nomark _))
 (pss_one (ps_expr (pe_bm PySem.F.plainAttrs_list PySem.F.slot_list_append PySem.F.type_list_append mt_append (pv 2) (pa_cons (pe_tup (pa_cons pe_int (pa_cons pe_int pa_nil))) pa_nil))))
 pss_nil)
 (pss_cons (ps_for PassesOwn.never rfl (pi_list (pv 2)) (pg_tup rfl (pgs_cons (pg_name (i := 5) c_law_walk.nd rfl (.inl rfl)) (pgs_cons (pg_name (i := 6) c_law_walk.nd rfl (.inl rfl)) pgs_nil)))
 (pss_one (ps_asg (pe_call Dlaw_part.G (hr.mono (by first | decide | omega)) rfl Dlaw_part.g Dlaw_part.kp Dlaw_part.b .nil pass0 (pa_cons (pv 0) pa_nil)) (pg_sub (pe_ix ix_list (pv 3) (pv 5) (fun _ _ => rfl)) (pv 6) set_list))))
 (pss_one (ps_ret (pe_callTy call_tuple_of (by rfl) M.tuple (by decide +kernel) (pa_cons (pe_lc (own := [("row", 7)]) rfl c_law_walk.nd (pi_list (pv 3)) (blkOk_by (own := [("row", 7)]) (N := n_law_walk) (sc := defScope s_law_walk) (by decide +kernel)) (fun _ _ _ _ _ => (pg_name (i := 7) c_law_walk.nd rfl (.inl rfl))) (fun _ _ _ _ _ => pts_nil) (fun _ _ _ _ _ => (pe_call Dlaw_over_sum.G (hr.mono (by first | decide | omega)) rfl Dlaw_over_sum.g Dlaw_over_sum.kp Dlaw_over_sum.b .nil pass0 (pa_cons (pv 7) pa_nil)))) pa_nil)))))))), ?_⟩
    refine ⟨_, rfl, _, rfl, w, l, n, rfl, n1, n6, hW, fun H1 l1 fA ts E k1 W1 hl1 nf fw fl eF tp hE elt con => ?_⟩
    refine ⟨_, rfl, _, rfl, by omega, by omega, fun D nD => ?_⟩
    have D0 : H D = none := kp_free k1 nD (W1.ne nD).1
    have rows : ∀ H' rs, Same H1 H' → H' D = some (.lst (rs.map V.ref)) → rs.length = n → (∀ (i j : Nat) r, rs[i]? = some r → rs[j]? = some r → i = j) → (∀ r ∈ rs, r ≠ D ∧ H1 r = none ∧ ∃ p, H' r = some (.lst (List.replicate n (.ref p))) ∧ H' p = some (.tup [.int 0, .int 1])) →
        WkH H H' w l1 fA D rs (List.replicate n (List.replicate n 0)) ts E := fun H' rs s eD hl nd hrs => by
      have W' : WellAt w l1 H' := by
        obtain ⟨st, x, ns, e1, e2, e3, e4⟩ := W1
        exact ⟨st, x, ns, s _ _ e1, e2, s _ _ e3, e4⟩
      refine ⟨k1.trans (Kp.same s), W', s _ _ eF, tp.mono fun t xs e => s _ _ e, eD, nd, by rw [List.length_replicate]; exact hl, fun i r row e1 e2 => ?_, nf, D0, fun r hr => kp_free k1 (hrs r (hr)).2.1 (W1.ne (hrs r hr).2.1).1, fw, (W1.ne nD).1, Ne.symm (ne_of_none eF nD),
        fun r hr => ⟨(W1.ne (hrs r hr).2.1).1, Ne.symm (ne_of_none eF (hrs r hr).2.1), (hrs r hr).1, (W1.ne (hrs r hr).2.1).2⟩, fl, (W1.ne nD).2⟩
      obtain ⟨h1, h2, p, h3, h4⟩ := hrs r (List.mem_of_getElem? e1)
      have hrow : row = List.replicate n 0 := List.eq_of_mem_replicate (List.mem_of_getElem? e2)
      subst hrow
      refine ⟨_, h3, by rw [List.length_replicate, List.length_replicate], fun j v k g1 g2 => ⟨p, List.eq_of_mem_replicate (List.mem_of_getElem? g1), ?_⟩⟩
      rw [List.eq_of_mem_replicate (List.mem_of_getElem? g2)]
      exact h4
    refine lc_it (walk_range (lo := 0) (n := n)) (fun i H' => Same H1 H' ∧ ∃ rs : List Addr, H' D = some (.lst (rs.map V.ref)) ∧ rs.length = i ∧ (∀ (i j : Nat) r, rs[i]? = some r → rs[j]? = some r → i = j) ∧ ∀ r ∈ rs, r ≠ D ∧ H1 r = none ∧ ∃ p, H' r = some (.lst (List.replicate n (.ref p))) ∧ H' p = some (.tup [.int 0, .int 1]))
      ⟨same_new nD, [], upd_same, rfl, fun i j r e => by simp at e, fun r hr => by simp at hr⟩ (fun i H _ p => trivial) ?_ ?_
    · rintro i x _ H2 hi ⟨s2, rs, eD, hl, nd, hrs⟩ ⟨rfl, rfl⟩
      refine ⟨rfl, ?_⟩
      unfold tYes
      refine ifT rfl ?_
      refine ⟨sz63 (by show 2 ≤ 1000; decide), fun t nt => ⟨sz63 (by show 1 ≤ 1000; decide), fun u nu => ⟨_, rfl, u, _, _, rfl, rfl, upd_same, by omega, by omega, ?_, fun r nr => ?_⟩⟩⟩
      · refine sz63 ?_
        show 1 * ((n : Int)).toNat ≤ 1000
        omega
      have en : (List.replicate ((n : Int)).toNat [V.ref t]).flatten = List.replicate n (.ref t) := by
        rw [Int.toNat_natCast]
        exact List.flatten_replicate_singleton
      rw [en]
      have s3 : Same H2 (upd (upd (upd H2 t (.tup [.int 0, .int 1])) u (.lst [.ref t])) r (.lst (List.replicate n (.ref t)))) := ((same_new nt).trans (same_new nu)).trans (same_new nr)
      have er : (upd (upd (upd H2 t (.tup [.int 0, .int 1])) u (.lst [.ref t])) r (.lst (List.replicate n (.ref t)))) r = some (.lst (List.replicate n (.ref t))) := upd_same
      have et : (upd (upd (upd H2 t (.tup [.int 0, .int 1])) u (.lst [.ref t])) r (.lst (List.replicate n (.ref t)))) t = some (.tup [.int 0, .int 1]) := ((same_new nu).trans (same_new nr)) _ _ upd_same
      have r2 : H2 r = none := ((same_new nt).trans (same_new nu)).free nr
      generalize upd (upd (upd H2 t (.tup [.int 0, .int 1])) u (.lst [.ref t])) r (.lst (List.replicate n (.ref t))) = H3 at s3 er et
      have eD3 := s3 _ _ eD
      have rD : r ≠ D := Ne.symm (ne_of_none eD r2)
      have keepL : ∀ {a : Addr} {o : HO} {acc : List V}, a ≠ D → H3 a = some o → (upd H3 D (.lst acc)) a = some o := fun ne e => by
        rw [upd_ne ne]
        exact e
      have tD : ∀ {t : Addr} {xs : List V}, H3 t = some (.tup xs) → t ≠ D := fun e z => by
        rw [z, eD3] at e
        cases e
      refine ⟨_, eD3, by rw [List.length_map]; exact sz63' (by omega), same_mut (s2.trans s3) nD, rs ++ [r], by rw [upd_same, List.map_append]; rfl, by rw [List.length_append, hl]; rfl, fun a b x ea eb => ?_, fun x hx => ?_⟩
      · have nin : ∀ (c : Nat), rs[c]? ≠ some r := fun c ec => by
          obtain ⟨_, _, p, h3, _⟩ := hrs r (List.mem_of_getElem? ec)
          rw [r2] at h3
          cases h3
        have la := (List.getElem?_eq_some_iff.mp ea).1
        have lb := (List.getElem?_eq_some_iff.mp eb).1
        rw [List.length_append, List.length_singleton] at la lb
        by_cases ca : a < rs.length
        · rw [List.getElem?_append_left ca] at ea
          by_cases cb : b < rs.length
          · rw [List.getElem?_append_left cb] at eb
            exact nd a b x ea eb
          · rw [List.getElem?_append_right (by omega), show b - rs.length = 0 by omega] at eb
            have : r = x := by simpa using eb
            rw [← this] at ea
            exact absurd ea (nin a)
        · rw [List.getElem?_append_right (by omega), show a - rs.length = 0 by omega] at ea
          have hx : r = x := by simpa using ea
          by_cases cb : b < rs.length
          · rw [List.getElem?_append_left cb, ← hx] at eb
            exact absurd eb (nin b)
          · omega
      · rcases List.mem_append.mp hx with hx | hx
        · obtain ⟨g1, g2, p, g3, g4⟩ := hrs x hx
          exact ⟨g1, g2, p, keepL g1 (s3 _ _ g3), keepL (tD (s3 _ _ g4)) (s3 _ _ g4)⟩
        · have : x = r := by simpa using hx
          subst this
          exact ⟨rD, s2.free r2, t, keepL rD er, keepL (tD et) et⟩
    · rintro H2 ⟨s2, rs, eD, hl, nd, hrs⟩
      have h2 := rows H2 rs s2 eD hl nd hrs
      clear rows
      have up : ∀ {H' H'' : Hp} {a b c : Addr}, (a = l ∨ H a = none) → (b = a ∨ H' b = none) → Kp (At w) H H' → WellAt w b H'' → (b = l ∨ H b = none) := fun {H' H'' a b c} ha hb k W => by
        rcases hb with hb | hb
        · rw [hb]
          exact ha
        · exact .inr (kp_free k hb (by
            obtain ⟨_, _, _, _, e, _⟩ := W
            exact e))
      refine ⟨_, _, rfl, ?_⟩
      -- a few more steps
      refine ⟨_, rfl, _, rfl, _, _, rfl, rfl, .inl ⟨by decide, by decide⟩, w, l1, _, rfl, (by show (0 : Int) < 2 * (n : Int); omega), (by show (2 : Int) * (n : Int) < 1073741824; omega), h2.W, fun H3 d l3 d0 d1 k3 W3 hl3 => ?_⟩
      have h3 := h2.pick k3 W3 hl3
      have q3 := up (c := w) hl1 hl3 h2.kp W3
      obtain ⟨dn, rfl⟩ : ∃ x : Nat, d = (x : Int) := ⟨d.toNat, by omega⟩
      have dn12 : dn < 12 := by
        have : (dn : Int) < 2 * (n : Int) := d1
        omega
      refine ⟨_, rfl, by omega, by omega, ?_⟩
      refine for_range (lo := 0) (n := dn) (fun t σ H' => ∃ l' ts' E' y4 y5 y6 y7, σ = [some (.ref w), some (.int (n : Nat)), some (.ref fA), some (.ref D), y4, y5, y6, y7] ∧ (l' = l ∨ H l' = none) ∧ WkH H H' w l' fA D rs (List.replicate n (List.replicate n 0)) ts' E' ∧ E'.length ≤ 100 + t ∧
          (∀ e ∈ E', e.1 < n ∧ e.2 < n) ∧ ∀ a b, a < n → b < n → Reach (Lk E') a b)
        ⟨l3, ts, E, _, _, _, _, rfl, q3, h3, hE, elt, con⟩ ?_ ?_
      · rintro t σ H4 ht ⟨l4, ts4, E4, y4, y5, y6, y7, rfl, q4, h4, hE4, elt4, con4⟩
        refine ⟨_, rfl, _, rfl, w, l4, _, rfl, by omega, by omega, h4.W, fun H5 a l5 a0 a1 k5 W5 hl5 => ?_⟩
        have h5 := h4.pick k5 W5 hl5
        have q5 := up (c := w) q4 hl5 h4.kp W5
        obtain ⟨a, rfl⟩ : ∃ x : Nat, a = (x : Int) := ⟨a.toNat, by omega⟩
        refine ⟨_, rfl, .inl ⟨rfl, _, .of h5.eF⟩, _, rfl, _, rfl, _, rfl, w, l5, _, rfl, by omega, by omega, h5.W, fun H6 b l6 b0 b1 k6 W6 hl6 => ⟨sz63 (by show 2 ≤ 1000; decide), fun p np => ?_⟩⟩
        have h6 := h5.pick k6 W6 hl6
        have q6 := up (c := w) q5 hl6 h5.kp W6
        obtain ⟨b, rfl⟩ : ∃ x : Nat, b = (x : Int) := ⟨b.toNat, by omega⟩
        have h7 := h6.new (o := .tup [.int (a : Nat), .int (b : Nat)]) np
        have ep7 : (upd H6 p (.tup [.int (a : Nat), .int (b : Nat)])) p = some (.tup [.int (a : Nat), .int (b : Nat)]) := upd_same
        generalize upd H6 p (.tup [.int (a : Nat), .int (b : Nat)]) = H7 at h7 ep7
        have tl := h7.tp.1
        refine ⟨fA, _, _, rfl, rfl, h7.eF, by rw [List.length_map]; exact sz63' (by omega), ?_⟩
        refine ⟨l6, _, _, _, _, _, _, rfl, q6, h7.addF ep7, by rw [List.length_append, List.length_singleton]; omega, fun e he => ?_, fun x y hx hy => lk_app (con4 x y hx hy)⟩
        rcases List.mem_append.mp he with he | he
        · exact elt4 e he
        · have : e = (a, b) := by simpa using he
          rw [this]
          exact ⟨by omega, by omega⟩
      · rintro σ H4 ⟨l4, ts4, E4, y4, y5, y6, y7, rfl, q4, h4, hE4, elt4, con4⟩
        refine ⟨_, rfl, rfl, _, rfl, ite2 (fun c => ?_) (fun c => ?_)⟩
        · have en : n = 1 := by
            have h1 := of_decide_eq_true c
            have h2 := V.int.inj h1
            omega
          refine ⟨_, rfl, .inl ⟨rfl, _, .of h4.eF⟩, sz63 (by show 2 ≤ 1000; decide), fun p np => ?_⟩
          have h7 := h4.new (o := .tup [.int (0 : Nat), .int (0 : Nat)]) np
          have ep7 : (upd H4 p (.tup [.int (0 : Nat), .int (0 : Nat)])) p = some (.tup [.int (0 : Nat), .int (0 : Nat)]) := upd_same
          refine ⟨fA, _, _, rfl, rfl, h7.eF, by rw [List.length_map]; have := h7.tp.1; exact sz63' (by omega), ?_⟩
          have hX := h7.addF ep7
          have qX := q4
          have eltX : ∀ e ∈ E4 ++ [(0, 0)], e.1 < n ∧ e.2 < n := fun e he => by
            rcases List.mem_append.mp he with he | he
            · exact elt4 e he
            · have : e = (0, 0) := by simpa using he
              rw [this]
              exact ⟨by omega, by omega⟩
          have conX : ∀ a b, a < n → b < n → Reach (Lk (E4 ++ [(0, 0)])) a b := fun x y hx hy => lk_app (con4 x y hx hy)
          have outX : ∀ a, a < n → ∃ b, (a, b) ∈ E4 ++ [(0, 0)] := fun a ha => ⟨0, by
            have : a = 0 := by omega
            rw [this]
            simp⟩
          generalize E4 ++ [(0, 0)] = EX at hX eltX conX outX
          generalize ts4 ++ [p] = tsX at hX
          have good0 : Good n (List.replicate n (List.replicate n 0)) := ⟨List.length_replicate .., fun row hr => by rw [List.eq_of_mem_replicate hr]; exact List.length_replicate .., fun row hr x hx => by
            rw [List.eq_of_mem_replicate hr] at hx
            rw [List.eq_of_mem_replicate hx]
            decide⟩
          refine ⟨_, rfl, fA, rfl, ⟨_, .of hX.eF⟩, for_list (K := K) (a := fA) (xs := tsX.map V.ref)
            (fun i σ H' => ∃ l' M y4 y5 y6 y7, σ = [some (.ref w), some (.int (n : Nat)), some (.ref fA), some (.ref D), y4, y5, y6, y7] ∧ (l' = l ∨ H l' = none) ∧ WkH H H' w l' fA D rs M tsX EX ∧ Good n M ∧ ∀ (k : Nat) e, k < i → EX[k]? = some e → Pos M e.1 e.2)
            ⟨l4, _, _, _, _, _, rfl, qX, hX, good0, fun k e hk => absurd hk (Nat.not_lt_zero k)⟩ (fun i σ H' _ ⟨_, _, _, _, _, _, _, _, h, _⟩ => .of h.eF) ?_ ?_⟩
          · rintro i x σ H5 hi ⟨l5, M5, z4, z5, z6, z7, rfl, q5, h5, g5, p5⟩
            obtain ⟨t, ht, rfl⟩ := map_some hi
            have tl := h5.tp.1
            have hiE : i < EX.length := by
              have := (List.getElem?_eq_some_iff.mp ht).1
              omega
            have he : EX[i]? = some EX[i] := List.getElem?_eq_getElem hiE
            obtain ⟨lt1, lt2⟩ := eltX _ (List.mem_of_getElem? he)
            generalize EX[i] = e at he lt1 lt2
            have et := h5.tp.2 i t e ht he
            refine ⟨t, _, rfl, .of et, rfl, _, _, rfl, _, _, rfl, rfl, ?_⟩
            refine ⟨_, rfl, w, l5, rfl, h5.W, fun H6 l6 p k k0 k20 k6 W6 hl6 np pw ep => ?_⟩
            have h6 := h5.pick k6 W6 hl6
            have q6 := up (c := w) q5 hl6 h5.kp W6
            have hl6' := h6.len
            have gl := g5.l
            have hr6 : rs[e.1]? = some (rs[e.1]'(by omega)) := List.getElem?_eq_getElem (by omega)
            generalize hgr : rs[e.1]'(by omega) = r at hr6
            obtain ⟨row, erow, xs, ex, xl, _⟩ := h6.row hr6
            have rl := g5.r row (List.mem_of_getElem? erow)
            refine ⟨_, rfl, _, rfl, D, _, (e.1 : Int), .ref r, rfl, rfl, .of h6.eR, atI_nat (by rw [List.getElem?_map, hr6]; rfl), _, rfl, r, xs, (e.2 : Int), e.2, rfl, rfl, ex, ixNat (by omega), ?_⟩
            refine ⟨l6, _, _, _, _, _, rfl, q6, h6.setCell hr6 erow ex ep, g5.set erow k20, fun j e' hj he' => ?_⟩
            refine Pos.set g5 erow k0 lt2 ?_
            by_cases c : j = i
            · subst c
              rw [he] at he'
              obtain rfl := Option.some.inj he'
              exact .inr ⟨rfl, rfl⟩
            · exact .inl (p5 j e' (by omega) he')
          · rintro σ H5 ⟨l5, M5, z4, z5, z6, z7, rfl, q5, h5, g5, p5⟩
            have tl := h5.tp.1
            have pE : ∀ a b, (a, b) ∈ EX → Pos M5 a b := fun a b h => by
              obtain ⟨k, hk⟩ := List.mem_iff_getElem?.mp h
              have := (List.getElem?_eq_some_iff.mp hk).1
              exact p5 k (a, b) (by rw [List.length_map]; omega) hk
            have pR : ∀ row ∈ M5, ∃ k ∈ row, 0 < k := fun row hr => by
              obtain ⟨a, ha⟩ := List.mem_iff_getElem?.mp hr
              have la := (List.getElem?_eq_some_iff.mp ha).1
              have gl := g5.l
              obtain ⟨b, hb⟩ := outX a (by omega)
              obtain ⟨row', k, h1, h2, h3⟩ := pE a b hb
              rw [ha] at h1
              obtain rfl := Option.some.inj h1
              exact ⟨k, List.mem_of_getElem? h2, h3⟩
            have T := walkM_tab n1 n6 g5.l g5.r pR
            have wl : (walkM M5).length = n := by
              unfold walkM
              rw [List.length_map]
              exact g5.l
            have St : Strong (walkM M5) := fun a b ha hb => (conX a b (by omega) (by omega)).mono fun x y e => by
              obtain ⟨row, k, h1, h2, h3⟩ := pE x y e
              exact walkM_ed pR h1 h2 h3
            have hlen := h5.len
            have gl := g5.l
            have hwn : H5 w ≠ none := by
              obtain ⟨_, _, _, e, _⟩ := h5.W
              rw [e]
              exact fun z => nomatch z
            refine ⟨_, rfl, D, rfl, ⟨_, .of h5.eR⟩, fun D2 nD2 => ?_⟩
            refine lc_rel (walk_list (K := K) (a := D) (xs := rs.map V.ref)) No (fun H' i y => ∃ row, M5[i]? = some row ∧ Dq (fun a => At w a ∨ a = D2) H' y (rowD (overQ row)))
              (fun Ha Hb i v k r => ?_) nD2 (fun _ z => z.elim) (by rw [List.length_map]; omega) (fun H' k' => .of (k' _ _ id h5.eR)) ?_ ?_
            · obtain ⟨row, e, h⟩ := r
              exact ⟨row, e, h.keep (k.mono fun b z => z.elim (fun z => z.elim) .inr)⟩
            · rintro i x H6 _ Q' hi k6 nD6 ⟨rfl, hx⟩ q'
              obtain ⟨r, hr, rfl⟩ := map_some hx
              obtain ⟨row, erow, xs, ex, xl, xa⟩ := h5.row hr
              have hrm := List.mem_of_getElem? erow
              have s6 := no_same k6
              have rl := g5.r row hrm
              refine ⟨rfl, _, rfl, r, xs, rowQ row, 20, rfl, .of (s6 _ _ ex), ⟨by unfold rowQ; rw [List.length_map]; exact xl, fun j v p h1 h2 => ?_⟩, fun p hp => ?_, by unfold rowQ; rw [List.length_map]; omega, by unfold rowQ; rw [List.length_map]; omega, row_pos (pR row hrm), fun v H7 s7 dv => ?_⟩
              · obtain ⟨k, hk, rfl⟩ := map_some h2
                obtain ⟨p, rfl, ep⟩ := xa j v k h1 hk
                refine ⟨p, rfl, .of ?_⟩
                rw [s6 _ _ ep, nat_num, nat_den]
                rfl
              · obtain ⟨k, hk, rfl⟩ := List.mem_map.mp hp
                exact nat_sz (g5.k row hrm k hk) (by omega)
              · refine q' _ _ (Kp.same s7) ⟨row, erow, dv.weak fun a z => ?_⟩
                rcases z with z | z
                · rw [show a = w from z]
                  exact fun e => hwn (s6.free e)
                · rw [z]
                  exact nD6
            · rintro H6 acc k6 eD6 hla ha
              have s6 := no_same k6
              refine ⟨D2, acc, rfl, .inl ⟨.of eD6, fun t nt => ?_⟩⟩
              have W6 : WellAt w l5 H6 := by
                obtain ⟨st, x, ns, e1, e2, e3, e4⟩ := h5.W
                exact ⟨st, x, ns, s6 _ _ e1, e2, s6 _ _ e3, e4⟩
              refine q _ l5 _ (walkM M5) ((h5.kp.trans (Kp.same s6)).trans (Kp.new nt)) (W6.new nt) q5 (.tup (W6.ne nt).1 upd_same ?_) T wl St (walkM_sum pR) (walkM_sz n6 g5.r g5.k pR) ⟨M5, rfl, g5, pR, fun x y hx hy => (conX x y hx hy).mono fun x y e => pE x y e⟩
              have all : DqAll (fun a => At w a ∨ a = D2) H6 acc ((walkM M5).map rowD) := dqAll_of (by rw [List.length_map, wl, hla, List.length_map]; omega) fun i v e => by
                obtain ⟨row, e2, h⟩ := ha i v e
                exact ⟨_, by unfold walkM; rw [List.getElem?_map, List.getElem?_map, e2]; rfl, h⟩
              exact (all.keep (Kp.new nt)).weak fun b z => .inl z
        · have hX := h4
          have qX := q4
          have eltX := elt4
          have conX := con4
          have c' : n ≠ 1 := fun z => c (decide_eq_true (by rw [z]; rfl))
          have outX : ∀ a, a < n → ∃ b, (a, b) ∈ E4 := fun a ha => by
            obtain ⟨b, hb, ne⟩ : ∃ b, b < n ∧ b ≠ a := by
              by_cases z : a = 0
              · exact ⟨1, by omega, by omega⟩
              · exact ⟨0, by omega, by omega⟩
            exact reach_out (con4 a b ha hb) (Ne.symm ne)
          generalize E4 = EX at hX eltX conX outX
          generalize ts4 = tsX at hX
          have good0 : Good n (List.replicate n (List.replicate n 0)) := ⟨List.length_replicate .., fun row hr => by rw [List.eq_of_mem_replicate hr]; exact List.length_replicate .., fun row hr x hx => by
            rw [List.eq_of_mem_replicate hr] at hx
            rw [List.eq_of_mem_replicate hx]
            decide⟩
          refine ⟨_, rfl, fA, rfl, ⟨_, .of hX.eF⟩, for_list (K := K) (a := fA) (xs := tsX.map V.ref)
            (fun i σ H' => ∃ l' M y4 y5 y6 y7, σ = [some (.ref w), some (.int (n : Nat)), some (.ref fA), some (.ref D), y4, y5, y6, y7] ∧ (l' = l ∨ H l' = none) ∧ WkH H H' w l' fA D rs M tsX EX ∧ Good n M ∧ ∀ (k : Nat) e, k < i → EX[k]? = some e → Pos M e.1 e.2)
            ⟨l4, _, _, _, _, _, rfl, qX, hX, good0, fun k e hk => absurd hk (Nat.not_lt_zero k)⟩ (fun i σ H' _ ⟨_, _, _, _, _, _, _, _, h, _⟩ => .of h.eF) ?_ ?_⟩
          · rintro i x σ H5 hi ⟨l5, M5, z4, z5, z6, z7, rfl, q5, h5, g5, p5⟩
            obtain ⟨t, ht, rfl⟩ := map_some hi
            have tl := h5.tp.1
            have hiE : i < EX.length := by
              have := (List.getElem?_eq_some_iff.mp ht).1
              omega
            have he : EX[i]? = some EX[i] := List.getElem?_eq_getElem hiE
            obtain ⟨lt1, lt2⟩ := eltX _ (List.mem_of_getElem? he)
            generalize EX[i] = e at he lt1 lt2
            have et := h5.tp.2 i t e ht he
            refine ⟨t, _, rfl, .of et, rfl, _, _, rfl, _, _, rfl, rfl, ?_⟩
            refine ⟨_, rfl, w, l5, rfl, h5.W, fun H6 l6 p k k0 k20 k6 W6 hl6 np pw ep => ?_⟩
            have h6 := h5.pick k6 W6 hl6
            have q6 := up (c := w) q5 hl6 h5.kp W6
            have hl6' := h6.len
            have gl := g5.l
            have hr6 : rs[e.1]? = some (rs[e.1]'(by omega)) := List.getElem?_eq_getElem (by omega)
            generalize hgr : rs[e.1]'(by omega) = r at hr6
            obtain ⟨row, erow, xs, ex, xl, _⟩ := h6.row hr6
            have rl := g5.r row (List.mem_of_getElem? erow)
            refine ⟨_, rfl, _, rfl, D, _, (e.1 : Int), .ref r, rfl, rfl, .of h6.eR, atI_nat (by rw [List.getElem?_map, hr6]; rfl), _, rfl, r, xs, (e.2 : Int), e.2, rfl, rfl, ex, ixNat (by omega), ?_⟩
            refine ⟨l6, _, _, _, _, _, rfl, q6, h6.setCell hr6 erow ex ep, g5.set erow k20, fun j e' hj he' => ?_⟩
            refine Pos.set g5 erow k0 lt2 ?_
            by_cases c : j = i
            · subst c
              rw [he] at he'
              obtain rfl := Option.some.inj he'
              exact .inr ⟨rfl, rfl⟩
            · exact .inl (p5 j e' (by omega) he')
          · rintro σ H5 ⟨l5, M5, z4, z5, z6, z7, rfl, q5, h5, g5, p5⟩
            have tl := h5.tp.1
            have pE : ∀ a b, (a, b) ∈ EX → Pos M5 a b := fun a b h => by
              obtain ⟨k, hk⟩ := List.mem_iff_getElem?.mp h
              have := (List.getElem?_eq_some_iff.mp hk).1
              exact p5 k (a, b) (by rw [List.length_map]; omega) hk
            have pR : ∀ row ∈ M5, ∃ k ∈ row, 0 < k := fun row hr => by
              obtain ⟨a, ha⟩ := List.mem_iff_getElem?.mp hr
              have la := (List.getElem?_eq_some_iff.mp ha).1
              have gl := g5.l
              obtain ⟨b, hb⟩ := outX a (by omega)
              obtain ⟨row', k, h1, h2, h3⟩ := pE a b hb
              rw [ha] at h1
              obtain rfl := Option.some.inj h1
              exact ⟨k, List.mem_of_getElem? h2, h3⟩
            have T := walkM_tab n1 n6 g5.l g5.r pR
            have wl : (walkM M5).length = n := by
              unfold walkM
              rw [List.length_map]
              exact g5.l
            have St : Strong (walkM M5) := fun a b ha hb => (conX a b (by omega) (by omega)).mono fun x y e => by
              obtain ⟨row, k, h1, h2, h3⟩ := pE x y e
              exact walkM_ed pR h1 h2 h3
            have hlen := h5.len
            have gl := g5.l
            have hwn : H5 w ≠ none := by
              obtain ⟨_, _, _, e, _⟩ := h5.W
              rw [e]
              exact fun z => nomatch z
            refine ⟨_, rfl, D, rfl, ⟨_, .of h5.eR⟩, fun D2 nD2 => ?_⟩
            refine lc_rel (walk_list (K := K) (a := D) (xs := rs.map V.ref)) No (fun H' i y => ∃ row, M5[i]? = some row ∧ Dq (fun a => At w a ∨ a = D2) H' y (rowD (overQ row)))
              (fun Ha Hb i v k r => ?_) nD2 (fun _ z => z.elim) (by rw [List.length_map]; omega) (fun H' k' => .of (k' _ _ id h5.eR)) ?_ ?_
            · obtain ⟨row, e, h⟩ := r
              exact ⟨row, e, h.keep (k.mono fun b z => z.elim (fun z => z.elim) .inr)⟩
            · rintro i x H6 _ Q' hi k6 nD6 ⟨rfl, hx⟩ q'
              obtain ⟨r, hr, rfl⟩ := map_some hx
              obtain ⟨row, erow, xs, ex, xl, xa⟩ := h5.row hr
              have hrm := List.mem_of_getElem? erow
              have s6 := no_same k6
              have rl := g5.r row hrm
              refine ⟨rfl, _, rfl, r, xs, rowQ row, 20, rfl, .of (s6 _ _ ex), ⟨by unfold rowQ; rw [List.length_map]; exact xl, fun j v p h1 h2 => ?_⟩, fun p hp => ?_, by unfold rowQ; rw [List.length_map]; omega, by unfold rowQ; rw [List.length_map]; omega, row_pos (pR row hrm), fun v H7 s7 dv => ?_⟩
              · obtain ⟨k, hk, rfl⟩ := map_some h2
                obtain ⟨p, rfl, ep⟩ := xa j v k h1 hk
                refine ⟨p, rfl, .of ?_⟩
                rw [s6 _ _ ep, nat_num, nat_den]
                rfl
              · obtain ⟨k, hk, rfl⟩ := List.mem_map.mp hp
                exact nat_sz (g5.k row hrm k hk) (by omega)
              · refine q' _ _ (Kp.same s7) ⟨row, erow, dv.weak fun a z => ?_⟩
                rcases z with z | z
                · rw [show a = w from z]
                  exact fun e => hwn (s6.free e)
                · rw [z]
                  exact nD6
            · rintro H6 acc k6 eD6 hla ha
              have s6 := no_same k6
              refine ⟨D2, acc, rfl, .inl ⟨.of eD6, fun t nt => ?_⟩⟩
              have W6 : WellAt w l5 H6 := by
                obtain ⟨st, x, ns, e1, e2, e3, e4⟩ := h5.W
                exact ⟨st, x, ns, s6 _ _ e1, e2, s6 _ _ e3, e4⟩
              refine q _ l5 _ (walkM M5) ((h5.kp.trans (Kp.same s6)).trans (Kp.new nt)) (W6.new nt) q5 (.tup (W6.ne nt).1 upd_same ?_) T wl St (walkM_sum pR) (walkM_sz n6 g5.r g5.k pR) ⟨M5, rfl, g5, pR, fun x y hx hy => (conX x y hx hy).mono fun x y e => pE x y e⟩
              have all : DqAll (fun a => At w a ∨ a = D2) H6 acc ((walkM M5).map rowD) := dqAll_of (by rw [List.length_map, wl, hla, List.length_map]; omega) fun i v e => by
                obtain ⟨row, e2, h⟩ := ha i v e
                exact ⟨_, by unfold walkM; rw [List.getElem?_map, List.getElem?_map, e2]; rfl, h⟩
              exact (all.keep (Kp.new nt)).weak fun b z => .inl z
end
end Kx
/-! Values of any kind; a value bent. -/
namespace Kx
open PySem PySem.Spec PyProof.Rows L2 Bw
abbrev s_law_odd : Stmt := topS 50
abbrev n_law_odd : List Str := ["well"]
theorem c_law_odd : FnScope n_law_odd ["well"] (defScope s_law_odd) :=
  ⟨rfl, rfl, rfl, by decide +kernel, rfl, by decide +kernel, by decide +kernel⟩

def odds : List PyData := PyData.none :: PyData.bool true :: PyData.bool false :: PyData.int 0 :: PyData.int 1 :: PyData.int 2 :: PyData.int 6 :: PyData.int 7 :: PyData.int (-1) :: PyData.int (10 ^ 30) :: PyData.str "" :: PyData.str "walk" :: PyData.str "0" :: PyData.tuple [] :: PyData.tuple [.int 0] :: PyData.tuple [.int 1] :: PyData.tuple [.int 0, .int 1] :: PyData.tuple [.int 1, .int 0] :: PyData.tuple [.int 1, .int 1] :: PyData.tuple [.int 0, .int 0] :: PyData.tuple [.int 1, .int 2] :: PyData.tuple [.int 2, .int 4] :: PyData.tuple [.int (-1), .int 2] :: PyData.tuple [.int 1, .int (-2)] :: PyData.tuple [.bool true, .int 2] :: PyData.tuple [.int 1, .bool true] :: PyData.tuple [.bool false] :: PyData.tuple [.int 0, .int 2] :: PyData.tuple [.int 0, .int 1, .int 2] :: PyData.tuple [.int 2, .int 1, .int 0] :: PyData.tuple [.int 0, .int 1, .int 3] :: PyData.tuple [.int 1, .int 2, .int 3] :: PyData.tuple [.tuple [.int 1, .int 1]] :: PyData.tuple [.tuple [.tuple [.int 1, .int 1]]] :: PyData.tuple [.tuple [.tuple [.int 0, .int 1]]] :: PyData.tuple [.tuple []] :: PyData.tuple [.none] :: PyData.tuple [.str "a"] :: PyData.list [] :: PyData.list [.int 0] :: PyData.list [.int 1, .int 2] :: PyData.list [.tuple [.int 1, .int 1]] :: PyData.list [.list [.tuple [.int 1, .int 1]]] :: PyData.dict [] :: PyData.dict [(.int 0, .int 1)] :: PyData.dict [(.str "a", .tuple [.int 1, .int 2])] :: PyData.tuple [.tuple [.tuple [.int 0, .int 1], .tuple [.int 1, .int 1]], .tuple [.tuple [.int 1, .int 1], .tuple [.int 0, .int 1]]] :: PyData.tuple [.list [.tuple [.int 1, .int 1]]] :: PyData.tuple [.tuple [.int 0, .int 1, .int 2], .tuple [.int 1, .int 2]] :: PyData.tuple [.tuple [.tuple [.int 2, .int 1]]] :: PyData.tuple [.tuple [.tuple [.int 0, .int 1, .int 2], .tuple [.int 1, .int 9]]] :: PyData.tuple [.tuple [.int 1, .int 2], .tuple [.int 1, .int 2]] :: PyData.tuple [.tuple [.int 1, .int 3], .tuple [.int 2, .int 3]] :: PyData.tuple [.tuple [.int 0, .int 1], .tuple [.int 1, .int 1]] :: PyData.tuple [.int 0, .int 0, .int 1] :: []
theorem odds_len : odds.length = 55 := rfl
mutual
def bdB (n : Nat) : PyData → Bool
  | .int i => decide (i.natAbs < 2 ^ n)
  | .list xs => bdsB n xs
  | .tuple xs => bdsB n xs
  | _ => true
def bdsB (n : Nat) : List PyData → Bool
  | [] => true
  | d :: ds => bdB n d && bdsB n ds
end
mutual
theorem bd_of_bool {n : Nat} : ∀ d : PyData, bdB n d = true → Bd n d
  | .none, _ => trivial
  | .bool _, _ => trivial
  | .str _, _ => trivial
  | .dict _, _ => trivial
  | .int i, h => by
    have h' : decide (i.natAbs < 2 ^ n) = true := h
    show i.natAbs < 2 ^ n
    exact of_decide_eq_true h'
  | .list xs, h => bds_of_bool xs h
  | .tuple xs, h => bds_of_bool xs h
theorem bds_of_bool {n : Nat} : ∀ ds : List PyData, bdsB n ds = true → BdAll n ds
  | [], _ => trivial
  | d :: ds, h => by
    have h' : (bdB n d && bdsB n ds) = true := h
    rw [Bool.and_eq_true] at h'
    exact ⟨bd_of_bool d h'.1, bds_of_bool ds h'.2⟩
end
theorem odds_bd : BdAll 160 odds := bds_of_bool odds (by decide +kernel)
/-- no long tuple -/
def lnB : PyData → Bool
  | .tuple ds => decide (ds.length ≤ 100)
  | _ => true
theorem odds_ln : ∀ d ∈ odds, lnB d = true := by decide +kernel
theorem ln_tup {W : Addr → Prop} {H : Hp} {zs : List V} {dz : List PyData} (h : DqAll W H zs dz) (l : zs.length ≤ 100) : lnB (.tuple dz) = true := by
  rw [h.length] at l
  exact decide_eq_true l
theorem evd_pow {σ : L2.St} : EvD (tOp (rI CPow fun i j => .int (i ^ j.toNat)) (tC (.int 10)) (tC (.int 30))) σ (.int (10 ^ 30)) := fun H Q q => ⟨_, _, rfl, rfl, ⟨by decide, by decide, by decide⟩, q _ H (.refl H) (.int (10 ^ 30))⟩
section
variable {P : Program} {w : World} {K : PySem.W.Frag} {mg : Str → Option Value} {base : Heap}
def spOdd : Sp := fun vs H Q _ => ∃ (w l : Addr), vs = [.ref w] ∧ WellAt w l H ∧
  ∀ (H' : Hp) (l' : Addr) (v : V) (d : PyData), Kp (At w) H H' → WellAt w l' H' → (l' = l ∨ H l' = none) → Dq (Old H) H' v d → Bd 160 d → lnB d = true → Q v H'
theorem ok_odd {f : Addr} {fd : FuncData} (F : Fun K "_law_odd" "_law_odd" s_law_odd f fd) (M : Mb mg) (Dlaw_of : Df P w K mg base 2 "_law_of" ["well", "some"] (spOfL K)) : FnOk P w K mg base CX0 3 f fd ["well"] spOdd := by
  refine F.ok c_law_odd (fun vs H Q E h => ?_) (fun cdv A outer s H vs Q E hr h => ?_)
  · obtain ⟨w, l, rfl, _⟩ := h
    rfl
  · obtain ⟨w, l, rfl, hW, q⟩ := h
    refine ⟨_, (pss_one (ps_ret (pe_call Dlaw_of.G (hr.mono (by first | decide | omega)) rfl Dlaw_of.g Dlaw_of.kp Dlaw_of.b .nil pass0 (pa_cons (pv 0) (pa_cons (pe_tup (pa_cons pe_non (pa_cons pe_bl (pa_cons pe_bl (pa_cons pe_int (pa_cons pe_int (pa_cons pe_int (pa_cons pe_int (pa_cons pe_int (pa_cons (pe_un un_neg pe_int) (pa_cons (pe_op op_pow pe_int pe_int) (pa_cons pe_str (pa_cons pe_str (pa_cons pe_str (pa_cons (pe_tup pa_nil) (pa_cons (pe_tup (pa_cons pe_int pa_nil)) (pa_cons (pe_tup (pa_cons pe_int pa_nil)) (pa_cons (pe_tup (pa_cons pe_int (pa_cons pe_int pa_nil))) (pa_cons (pe_tup (pa_cons pe_int (pa_cons pe_int pa_nil))) (pa_cons (pe_tup (pa_cons pe_int (pa_cons pe_int pa_nil))) (pa_cons (pe_tup (pa_cons pe_int (pa_cons pe_int pa_nil))) (pa_cons (pe_tup (pa_cons pe_int (pa_cons pe_int pa_nil))) (pa_cons (pe_tup (pa_cons pe_int (pa_cons pe_int pa_nil))) (pa_cons (pe_tup (pa_cons (pe_un un_neg pe_int) (pa_cons pe_int pa_nil))) (pa_cons (pe_tup (pa_cons pe_int (pa_cons (pe_un un_neg pe_int) pa_nil))) (pa_cons (pe_tup (pa_cons pe_bl (pa_cons pe_int pa_nil))) (pa_cons (pe_tup (pa_cons pe_int (pa_cons pe_bl pa_nil))) (pa_cons (pe_tup (pa_cons pe_bl pa_nil)) (pa_cons (pe_tup (pa_cons pe_int (pa_cons pe_int pa_nil))) (pa_cons (pe_tup (pa_cons pe_int (pa_cons pe_int (pa_cons pe_int pa_nil)))) (pa_cons (pe_tup (pa_cons pe_int (pa_cons pe_int (pa_cons pe_int pa_nil)))) (pa_cons (pe_tup (pa_cons pe_int (pa_cons pe_int (pa_cons pe_int pa_nil)))) (pa_cons (pe_tup (pa_cons pe_int (pa_cons pe_int (pa_cons pe_int pa_nil)))) (pa_cons (pe_tup (pa_cons (pe_tup (pa_cons pe_int (pa_cons pe_int pa_nil))) pa_nil)) (pa_cons (pe_tup (pa_cons (pe_tup (pa_cons (pe_tup (pa_cons pe_int (pa_cons pe_int pa_nil))) pa_nil)) pa_nil)) (pa_cons (pe_tup (pa_cons (pe_tup (pa_cons (pe_tup (pa_cons pe_int (pa_cons pe_int pa_nil))) pa_nil)) pa_nil)) (pa_cons (pe_tup (pa_cons (pe_tup pa_nil) pa_nil)) (pa_cons (pe_tup (pa_cons pe_non pa_nil)) (pa_cons (pe_tup (pa_cons pe_str pa_nil)) (pa_cons (pe_lst pa_nil) (pa_cons (pe_lst (pa_cons pe_int pa_nil)) (pa_cons (pe_lst (pa_cons pe_int (pa_cons pe_int pa_nil))) (pa_cons (pe_lst (pa_cons (pe_tup (pa_cons pe_int (pa_cons pe_int pa_nil))) pa_nil)) (pa_cons (pe_lst (pa_cons (pe_lst (pa_cons (pe_tup (pa_cons pe_int (pa_cons pe_int pa_nil))) pa_nil)) pa_nil)) (pa_cons pe_dnewK (pa_cons (pe_disp (pps_cons pe_int pe_int pps_nil) (by rfl) (by rfl) (fun z => by cases z) (by decide)) (pa_cons (pe_disp (pps_cons pe_str (pe_tup (pa_cons pe_int (pa_cons pe_int pa_nil))) pps_nil) (by rfl) (by rfl) (fun z => by cases z) (by decide)) (pa_cons (pe_tup (pa_cons (pe_tup (pa_cons (pe_tup (pa_cons pe_int (pa_cons pe_int pa_nil))) (pa_cons (pe_tup (pa_cons pe_int (pa_cons pe_int pa_nil))) pa_nil))) (pa_cons (pe_tup (pa_cons (pe_tup (pa_cons pe_int (pa_cons pe_int pa_nil))) (pa_cons (pe_tup (pa_cons pe_int (pa_cons pe_int pa_nil))) pa_nil))) pa_nil))) (pa_cons (pe_tup (pa_cons (pe_lst (pa_cons (pe_tup (pa_cons pe_int (pa_cons pe_int pa_nil))) pa_nil)) pa_nil)) (pa_cons (pe_tup (pa_cons (pe_tup (pa_cons pe_int (pa_cons pe_int (pa_cons pe_int pa_nil)))) (pa_cons (pe_tup (pa_cons pe_int (pa_cons pe_int pa_nil))) pa_nil))) (pa_cons (pe_tup (pa_cons (pe_tup (pa_cons (pe_tup (pa_cons pe_int (pa_cons pe_int pa_nil))) pa_nil)) pa_nil)) (pa_cons (pe_tup (pa_cons (pe_tup (pa_cons (pe_tup (pa_cons pe_int (pa_cons pe_int (pa_cons pe_int pa_nil)))) (pa_cons (pe_tup (pa_cons pe_int (pa_cons pe_int pa_nil))) pa_nil))) pa_nil)) (pa_cons (pe_tup (pa_cons (pe_tup (pa_cons pe_int (pa_cons pe_int pa_nil))) (pa_cons (pe_tup (pa_cons pe_int (pa_cons pe_int pa_nil))) pa_nil))) (pa_cons (pe_tup (pa_cons (pe_tup (pa_cons pe_int (pa_cons pe_int pa_nil))) (pa_cons (pe_tup (pa_cons pe_int (pa_cons pe_int pa_nil))) pa_nil))) (pa_cons (pe_tup (pa_cons (pe_tup (pa_cons pe_int (pa_cons pe_int pa_nil))) (pa_cons (pe_tup (pa_cons pe_int (pa_cons pe_int pa_nil))) pa_nil))) (pa_cons (pe_tup (pa_cons pe_int (pa_cons pe_int (pa_cons pe_int pa_nil)))) pa_nil)))))))))))))))))))))))))))))))))))))))))))))))))))))))) pa_nil))))), ?_⟩
    refine ⟨_, rfl, ?_⟩
    refine (evd_tup (ds := odds) ?_ (by decide)) H _ fun v H2 s2 e2 => ?_
    · unfold odds
      repeat (first | exact evds_nil | refine evds_cons ?_ ?_ | exact evd_non | exact evd_bl | exact evd_int | exact evd_str | exact evd_neg | exact evd_pow | exact evd_dnew | refine evd_tup ?_ (by decide) | refine evd_lst ?_ (by decide) | refine evd_dict1 (k := .inl 0) ?_ | refine evd_dict1 (k := .inr "a") ?_)
    · cases e2 with
      | tup na ea el =>
        rename_i a xs
        have hll : xs.length = 55 := el.length
        have W2 : WellAt w l H2 := by
          obtain ⟨st, x, ns, e1, e2, e3, e4⟩ := hW
          exact ⟨st, x, ns, s2 _ _ e1, e2, s2 _ _ e3, e4⟩
        have hwo : Old H w := by
          obtain ⟨_, _, _, e, _⟩ := hW
          show H w ≠ none
          rw [e]
          exact fun z => nomatch z
        have naw : a ≠ w := fun z => na (by rw [z]; exact hwo)
        refine ⟨w, l, a, xs, rfl, W2, naw, .inr (.of ea), by omega, by omega, fun H3 i y l3 hy k3 W3 hl3 => ?_⟩
        obtain ⟨d, hd, dq⟩ := el.at hy
        refine q H3 l3 y d ((Kp.same s2).trans k3) W3 ?_ (dq.keep (k3.mono fun b z => ?_)) (bd_of odds_bd hd) (odds_ln d (List.mem_of_getElem? hd))
        · rcases hl3 with h | h
          · exact .inl h
          · exact .inr (s2.free h)
        · rw [show b = w from z]
          exact hwo
/-! ### tuples cut and joined -/
theorem sl_by {a : Addr} {xs : List V} {lo hi : Option Int} {H : Hp} {Q : VK} (e : H a = some (.tup xs)) (q : ∀ p H', Same H H' → H' p = some (.tup (cutV xs lo hi)) → (p = a ∨ H p = none) → Q (.ref p) H') : rSlA K (.ref a) lo hi H Q := by
  refine ⟨a, xs, rfl, .of e, fun hw => q a H (.refl H) ?_ (.inl rfl), fun _ p np => q p _ (same_new np) upd_same (.inr np)⟩
  rw [e]
  unfold cutV
  rw [hw.1, hw.2, List.drop_zero, Nat.sub_zero, List.take_length]
theorem cat_by {a b : Addr} {xs ys : List V} {H : Hp} {Q : VK} (e : H a = some (.tup xs)) (f : H b = some (.tup ys)) (hl : xs.length + ys.length ≤ 1000) (q : ∀ p H', Same H H' → H' p = some (.tup (xs ++ ys)) → (p = a ∨ p = b ∨ H p = none) → Q (.ref p) H') : rCatA K (.ref a) (.ref b) H Q := by
  refine ⟨a, b, xs, ys, rfl, rfl, .of e, .of f, sz63 hl, fun z => q b H (.refl H) (by rw [f, z]; rfl) (.inr (.inl rfl)), fun _ z => q a H (.refl H) (by rw [e, z, List.append_nil]) (.inl rfl), fun _ _ p np => q p _ (same_new np) upd_same (.inr (.inr np))⟩
theorem cut_to {xs : List V} {n : Nat} (h : n ≤ xs.length) : cutV xs none (some (n : Int)) = xs.take n := by
  unfold cutV
  rw [HT.sIx_none, HT.sIx_nat, List.drop_zero, Nat.sub_zero, Nat.min_eq_left h]
theorem cut_from {xs : List V} {n : Nat} (h : n ≤ xs.length) : cutV xs (some (n : Int)) none = xs.drop n := by
  unfold cutV
  rw [HT.sIx_none, HT.sIx_nat, Nat.min_eq_left h]
  exact List.take_of_length_le (by rw [List.length_drop]; exact Nat.le_refl _)
theorem cut_mid {xs : List V} {m n : Nat} (h : n ≤ xs.length) (hm : m ≤ n) : cutV xs (some (m : Int)) (some (n : Int)) = (xs.drop m).take (n - m) := by
  unfold cutV
  rw [HT.sIx_nat, HT.sIx_nat, Nat.min_eq_left h, Nat.min_eq_left (Nat.le_trans hm h)]
theorem dqAll_take {W : Addr → Prop} {H : Hp} : ∀ {xs : List V} {ds : List PyData} (n : Nat), DqAll W H xs ds → DqAll W H (xs.take n) (ds.take n)
  | _, _, 0, _ => by simp; exact .nil
  | _, _, n + 1, .nil => .nil
  | _, _, n + 1, .cons h t => .cons h (dqAll_take n t)
theorem dqAll_drop {W : Addr → Prop} {H : Hp} : ∀ {xs : List V} {ds : List PyData} (n : Nat), DqAll W H xs ds → DqAll W H (xs.drop n) (ds.drop n)
  | _, _, 0, h => h
  | _, _, n + 1, .nil => .nil
  | _, _, n + 1, .cons h t => dqAll_drop n t
theorem dqAll_rev {W : Addr → Prop} {H : Hp} : ∀ {xs : List V} {ds : List PyData}, DqAll W H xs ds → DqAll W H xs.reverse ds.reverse
  | _, _, .nil => .nil
  | _, _, .cons h t => by
    rw [List.reverse_cons, List.reverse_cons]
    exact (dqAll_rev t).app (.cons h .nil)
end
end Kx
/-! A value bent. -/
namespace Kx
open PySem PySem.Spec PyProof.Rows L2 Bw
abbrev s_law_bent : Stmt := topS 51
abbrev n_law_bent : List Str := ["well", "thing", "way", "at"]
theorem c_law_bent : FnScope n_law_bent ["well", "thing"] (defScope s_law_bent) :=
  ⟨rfl, rfl, rfl, by decide +kernel, rfl, by decide +kernel, by decide +kernel⟩

/-- numbers, tuples of such -/
def Pl : Nat → PyData → Prop
  | 0, _ => False
  | _ + 1, .int _ => True
  | D + 1, .tuple ds => ds.length ≤ 10 ∧ ∀ d ∈ ds, Pl D d
  | _ + 1, _ => False
mutual
theorem bd_mono {m n : Nat} (l : m ≤ n) : ∀ d : PyData, Bd m d → Bd n d
  | .none, _ => trivial
  | .bool _, _ => trivial
  | .str _, _ => trivial
  | .dict _, _ => trivial
  | .int i, h => by
    have h' : i.natAbs < 2 ^ m := h
    show i.natAbs < 2 ^ n
    exact Nat.lt_of_lt_of_le h' (Nat.pow_le_pow_right (by decide) l)
  | .list xs, h => bdAll_mono l xs h
  | .tuple xs, h => bdAll_mono l xs h
theorem bdAll_mono {m n : Nat} (l : m ≤ n) : ∀ ds : List PyData, BdAll m ds → BdAll n ds
  | [], _ => trivial
  | d :: ds, h => ⟨bd_mono l d h.1, bdAll_mono l ds h.2⟩
end
theorem bd_sub {m n : Nat} {ds es : List PyData} (h : BdAll m ds) (l : m ≤ n) (s : ∀ d ∈ es, d ∈ ds) : BdAll n es := bdAll_iff.mpr fun d hd => bd_mono l d (bdAll_iff.mp h d (s d hd))
theorem bd_app {n : Nat} {ds es : List PyData} (h : BdAll n ds) (k : BdAll n es) : BdAll n (ds ++ es) := bdAll_iff.mpr fun d hd => by
  rcases List.mem_append.mp hd with hd | hd
  · exact bdAll_iff.mp h d hd
  · exact bdAll_iff.mp k d hd
def lots : List PyData := .tuple [.int 1, .int 2] :: .tuple [.int (-1), .int 3] :: .tuple [.int 1, .int 60] :: .tuple [.int (-1), .int 60] :: .tuple [.int (-1), .int 1] :: .tuple [.int 1, .int 1] :: []
theorem lots_ok : ∀ d ∈ lots, isFr d = true ∧ bdB 10 d = true := by decide +kernel
theorem WellAt.same {w l : Addr} {H H' : Hp} (h : WellAt w l H) (s : Same H H') : WellAt w l H' := by
  obtain ⟨st, x, ns, e1, e2, e3, e4⟩ := h
  exact ⟨st, x, ns, s _ _ e1, e2, s _ _ e3, e4⟩
theorem well_up {w l a b : Addr} {H H' H'' : Hp} (ha : a = l ∨ H a = none) (hb : b = a ∨ H' b = none) (k : Kp (At w) H H') (W : WellAt w b H'') : b = l ∨ H b = none := by
  rcases hb with hb | hb
  · rw [hb]
    exact ha
  · exact .inr (kp_free k hb (by
      obtain ⟨_, _, _, _, e, _⟩ := W
      exact e))
section
variable {P : Program} {w : World} {K : PySem.W.Frag} {mg : Str → Option Value} {base : Heap}
/-- lists alone, as they stand -/
def LsS (S : Addr → Prop) (H : Hp) : Prop := ∀ a, S a → ∃ ys, H a = some (.lst ys)
theorem LsS.keep {S : Addr → Prop} {H H' : Hp} {w l : Addr} (h : LsS S H) (k : Kp (At w) H H') (W : WellAt w l H') : LsS S H' := fun a s => by
  by_cases c : a = w
  · obtain ⟨st, n, ns, e, _⟩ := W
    exact ⟨_, by rw [c]; exact e⟩
  · obtain ⟨ys, e⟩ := h a s
    exact ⟨ys, k a _ c e⟩
theorem LsS.tup {S : Addr → Prop} {H : Hp} {a : Addr} {xs : List V} (h : LsS S H) (e : H a = some (.tup xs)) : ¬ S a := fun s => by
  obtain ⟨ys, e2⟩ := h a s
  rw [e] at e2
  cases e2
theorem LsS.new {S : Addr → Prop} {H : Hp} {a : Addr} (h : LsS S H) (e : H a = none) : ¬ S a := fun s => by
  obtain ⟨ys, e2⟩ := h a s
  rw [e] at e2
  cases e2
theorem LsS.old {S : Addr → Prop} {H : Hp} (h : LsS S H) : ∀ a, S a → Old H a := fun a s => by
  obtain ⟨ys, e2⟩ := h a s
  show H a ≠ none
  rw [e2]
  exact fun z => nomatch z
theorem _root_.Bw.Kp.ls {S : Addr → Prop} {H H' : Hp} {w : Addr} (k : Kp (At w) H H') (s : S w) : Kp S H H' := k.mono fun a z => by
  rw [show a = w from z]
  exact s
def spBent (D : Nat) : Sp := fun vs H Q _ => ∃ (S : Addr → Prop) (w l : Addr) (v : V) (d : PyData), vs = [.ref w, v] ∧ S w ∧ LsS S H ∧ WellAt w l H ∧ Dq S H v d ∧ Pl D d ∧ Bd 190 d ∧
  ∀ (H' : Hp) (l' : Addr) (v' : V) (d' : PyData), Kp (At w) H H' → WellAt w l' H' → (l' = l ∨ H l' = none) → Dq S H' v' d' → Bd 210 d' → lnB d' = true → Q v' H'
theorem ok_bentS {D : Nat} {f : Addr} {fd : FuncData} (F : Fun K "_law_bent" "_law_bent" s_law_bent f fd) (M : Mb mg) (Dlaw_pick : Df P w K mg base 1 "_law_pick" ["well", "limit"] spPickL)
    (Dlaw_of : Df P w K mg base 2 "_law_of" ["well", "some"] (spOfL K)) (Dlaw_odd : Df P w K mg base 3 "_law_odd" ["well"] spOdd) (Dlaw_is_number : Df P w K mg base 1 "_law_is_number" ["thing"] (spAsk isNum))
    (Dlaw_is_frac : Df P w K mg base 2 "_law_is_frac" ["thing"] (spAskB 300 isFr)) (Dlaw_plus : Df P w K mg base 2 "_law_plus" ["here", "there"] (spPlus K)) (Dlaw_bent : Df P w K mg base (5 + D) "_law_bent" ["well", "thing"] (spBent D)) :
    FnOk P w K mg base CX0 (5 + D + 1) f fd ["well", "thing"] (spBent (D + 1)) := by
  refine F.ok c_law_bent (fun vs H Q E h => ?_) (fun cdv A outer s H vs Q E hr h => ?_)
  · obtain ⟨_, w, l, v, d, rfl, _⟩ := h
    rfl
  · obtain ⟨S, w, l, v, d, rfl, sw, hS, hW, hd, hp, hb, q⟩ := h
    have hu := hr.units
    refine ⟨_, (pss_cons (ps_set (i := 2) c_law_bent.nd rfl (.inl rfl) (pe_call Dlaw_pick.G (hr.mono (by first | decide | omega)) rfl Dlaw_pick.g Dlaw_pick.kp Dlaw_pick.b .nil pass0 (pa_cons (pv 0) (pa_cons pe_int pa_nil))))
 (pss_cons (ps_if (pt_cmpR op_eq (pv 2) pe_int (nomark _))
 (pss_one (ps_ret (pe_call Dlaw_odd.G (hr.mono (by first | decide | omega)) rfl Dlaw_odd.g Dlaw_odd.kp Dlaw_odd.b .nil pass0 (pa_cons (pv 0) pa_nil))))
 pss_nil)
 (pss_cons (ps_if (pt_val (pe_call Dlaw_is_number.G (hr.mono (by first | decide | omega)) rfl Dlaw_is_number.g Dlaw_is_number.kp Dlaw_is_number.b .nil pass0 (pa_cons (pv 1) pa_nil)))
 (pss_one (ps_ret (pe_call Dlaw_of.G (hr.mono (by first | decide | omega)) rfl Dlaw_of.g Dlaw_of.kp Dlaw_of.b .nil pass0 (pa_cons (pv 0) (pa_cons (pe_tup (pa_cons (pe_op op_add (pv 1) pe_int) (pa_cons (pe_op op_sub (pv 1) pe_int) (pa_cons (pe_op op_sub pe_int (pv 1)) (pa_cons (pe_op op_mul (pv 1) pe_int) (pa_cons (pe_cmpR op_gt (pv 1) pe_int (nomark _)) (pa_cons (pe_op op_add (pv 1) pe_int) (pa_cons (pe_callTy call_str_int (by rfl) M.str (by decide +kernel) (pa_cons (pv 1) pa_nil)) (pa_cons (pe_op op_add (pv 1) pe_int) pa_nil))))))))) pa_nil)))))
 pss_nil)
 (pss_cons (ps_if (pt_val (pe_callB call_isD (by rfl) M.isinstance (by decide +kernel) (pa_cons (pv 1) (pa_cons (pe_bltn (v := .ty "str") rfl M.str (by decide +kernel) rfl) pa_nil))))
 (pss_one (ps_ret (pe_call Dlaw_of.G (hr.mono (by first | decide | omega)) rfl Dlaw_of.g Dlaw_of.kp Dlaw_of.b .nil pass0 (pa_cons (pv 0) (pa_cons (pe_tup (pa_cons (pe_op op_add (pv 1) pe_str) (pa_cons (pe_slice sl_list (pv 1) (po_some pe_int) po_none) (pa_cons (pe_slice sl_list (pv 1) po_none (po_some (pe_un un_neg pe_int))) (pa_cons (pe_upper (pv 1)) (pa_cons pe_str (pa_cons pe_str pa_nil))))))) pa_nil)))))
 pss_nil)
 (pss_cons (ps_if (PW.pt (pw_and (pt_val (pe_call Dlaw_is_frac.G (hr.mono (by first | decide | omega)) rfl Dlaw_is_frac.g Dlaw_is_frac.kp Dlaw_is_frac.b .nil pass0 (pa_cons (pv 1) pa_nil))) (pw_and1 (pt_cmpR op_lt (pv 2) pe_int (nomark _)))))
 (pss_one (ps_ret (pe_call Dlaw_plus.G (hr.mono (by first | decide | omega)) rfl Dlaw_plus.g Dlaw_plus.kp Dlaw_plus.b .nil pass0 (pa_cons (pv 1) (pa_cons (pe_call Dlaw_of.G (hr.mono (by first | decide | omega)) rfl Dlaw_of.g Dlaw_of.kp Dlaw_of.b .nil pass0 (pa_cons (pv 0) (pa_cons (pe_tup (pa_cons (pe_tup (pa_cons pe_int (pa_cons pe_int pa_nil))) (pa_cons (pe_tup (pa_cons (pe_un un_neg pe_int) (pa_cons pe_int pa_nil))) (pa_cons (pe_tup (pa_cons pe_int (pa_cons pe_int pa_nil))) (pa_cons (pe_tup (pa_cons (pe_un un_neg pe_int) (pa_cons pe_int pa_nil))) (pa_cons (pe_tup (pa_cons (pe_un un_neg pe_int) (pa_cons pe_int pa_nil))) (pa_cons (pe_tup (pa_cons pe_int (pa_cons pe_int pa_nil))) pa_nil))))))) pa_nil))) pa_nil)))))
 pss_nil)
 (pss_cons (ps_if (PW.pt (pw_or (pt_not (pt_val (pe_callB call_isD (by rfl) M.isinstance (by decide +kernel) (pa_cons (pv 1) (pa_cons (pe_bltn (v := .ty "tuple") rfl M.tuple (by decide +kernel) rfl) pa_nil))))) (pw_or1 (pt_cmpR (op_eqNilT hu) (pv 1) (pe_tup pa_nil) (nomark _)))))
 (pss_one (ps_ret (pe_call Dlaw_odd.G (hr.mono (by first | decide | omega)) rfl Dlaw_odd.g Dlaw_odd.kp Dlaw_odd.b .nil pass0 (pa_cons (pv 0) pa_nil))))
 pss_nil)
 (pss_cons (ps_set (i := 3) c_law_bent.nd rfl (.inl rfl) (pe_call Dlaw_pick.G (hr.mono (by first | decide | omega)) rfl Dlaw_pick.g Dlaw_pick.kp Dlaw_pick.b .nil pass0 (pa_cons (pv 0) (pa_cons (pe_callB call_len_seq (by rfl) M.len (by decide +kernel) (pa_cons (pv 1) pa_nil)) pa_nil))))
 (pss_cons (ps_if (pt_cmpR op_eq (pv 2) pe_int (nomark _))
 (pss_one (ps_ret (pe_op op_catA (pe_slice sl_tupA (pv 1) po_none (po_some (pv 3))) (pe_slice sl_tupA (pv 1) (po_some (pe_op op_add (pv 3) pe_int)) po_none))))
 pss_nil)
 (pss_cons (ps_if (pt_cmpR op_eq (pv 2) pe_int (nomark _))
 (pss_one (ps_ret (pe_op op_catA (pe_op op_catA (pe_slice sl_tupA (pv 1) po_none (po_some (pv 3))) (pe_slice sl_tupA (pv 1) (po_some (pv 3)) (po_some (pe_op op_add (pv 3) pe_int)))) (pe_slice sl_tupA (pv 1) (po_some (pv 3)) po_none))))
 pss_nil)
 (pss_cons (ps_if (pt_cmpR op_eq (pv 2) pe_int (nomark _))
 (pss_one (ps_ret (pe_ifExp (pt_cmpR op_gt (pe_call Dlaw_pick.G (hr.mono (by first | decide | omega)) rfl Dlaw_pick.g Dlaw_pick.kp Dlaw_pick.b .nil pass0 (pa_cons (pv 0) (pa_cons pe_int pa_nil))) pe_int (nomark _)) (pe_revT (pv 1)) (pe_callTy call_list_of (by rfl) M.list (by decide +kernel) (pa_cons (pv 1) pa_nil)))))
 pss_nil)
 (pss_cons (ps_if (pt_cmpR op_eq (pv 2) pe_int (nomark _))
 (pss_one (ps_ret (pe_op op_catA (pe_op op_catA (pe_slice sl_tupA (pv 1) po_none (po_some (pv 3))) (pe_tup (pa_cons (pe_call Dlaw_odd.G (hr.mono (by first | decide | omega)) rfl Dlaw_odd.g Dlaw_odd.kp Dlaw_odd.b .nil pass0 (pa_cons (pv 0) pa_nil)) pa_nil))) (pe_slice sl_tupA (pv 1) (po_some (pv 3)) po_none))))
 pss_nil)
 (pss_cons (ps_if (pt_cmpR op_eq (pv 2) pe_int (nomark _))
 (pss_one (ps_ret (pe_op op_catA (pe_slice sl_tupA (pv 1) (po_some (pv 3)) po_none) (pe_slice sl_tupA (pv 1) po_none (po_some (pv 3))))))
 pss_nil)
 (pss_one (ps_ret (pe_op op_catA (pe_op op_catA (pe_slice sl_tupA (pv 1) po_none (po_some (pv 3))) (pe_tup (pa_cons (pe_call Dlaw_bent.G (hr.mono (by first | decide | omega)) rfl Dlaw_bent.g Dlaw_bent.kp Dlaw_bent.b .nil pass0 (pa_cons (pv 0) (pa_cons (pe_ix ix_tup (pv 1) (pv 3) (fun _ _ => rfl)) pa_nil))) pa_nil))) (pe_slice sl_tupA (pv 1) (po_some (pe_op op_add (pv 3) pe_int)) po_none)))))))))))))))), ?_⟩
    refine ⟨_, rfl, w, l, _, rfl, by omega, by omega, hW, fun H1 way l1 y0 y1 k1 W1 hl1 => ?_⟩
    have fin : ∀ (H' : Hp) (l' : Addr) (v' : V) (d' : PyData), Kp (At w) H1 H' → WellAt w l' H' → (l' = l1 ∨ H1 l' = none) → Dq S H' v' d' → Bd 210 d' → lnB d' = true → Q v' H' := fun H' l' v' d' k W hl h b g =>
      q H' l' v' d' (k1.trans k) W (well_up hl1 hl k1 W) h b g
    have h1 := hd.keep (k1.ls sw)
    have hS1 := hS.keep k1 W1
    refine ⟨_, rfl, rfl, _, rfl, ite2 (fun c0 => ?_) (fun c0 => ?_)⟩
    · exact ⟨_, rfl, w, l1, rfl, W1, fun H2 l2 v2 d2 k2 W2 hl2 e2 b2 g2 => fin H2 l2 v2 d2 k2 W2 hl2 (e2.weak hS1.old) (bd_mono (by omega) d2 b2) g2⟩
    refine ⟨_, rfl, S, v, d, rfl, h1, _, rfl, ?_⟩
    cases d with
    | int i =>
      refine ifT rfl ?_
      have hi : i.natAbs < 2 ^ 190 := hb
      have big : ∀ j : Int, j.natAbs ≤ 2 * i.natAbs + 6 → Bd 210 (.int j) := fun j hj => by
        show j.natAbs < 2 ^ 210
        have : (2 : Nat) ^ 210 = 2 ^ 190 * 1048576 := by decide
        omega
      obtain rfl := h1.intI
      have lg : i.natAbs.log2 < 1920 := by
        by_cases z : i.natAbs = 0
        · rw [z]
          decide
        · exact (Nat.log2_lt z).mpr (Nat.lt_of_lt_of_le hi (Nat.pow_le_pow_right (by decide) (by omega)))
      refine ⟨_, rfl, _, rfl, _, _, rfl, rfl, _, rfl, _, _, rfl, rfl, _, rfl, _, _, rfl, rfl, _, rfl, _, _, rfl, rfl, .inr ⟨by decide, by decide⟩, _, rfl, _, _, rfl, rfl, _, rfl, _, _, rfl, rfl, _, rfl, i, rfl, lg, _, rfl, _, _, rfl, rfl, sz63 (by show 8 ≤ 1000; decide), fun t nt => ?_⟩
      refine ⟨w, l1, t, _, rfl, W1.new nt, (W1.ne nt).1, .inr (.of upd_same), (by show 0 < 8; decide), (by show 8 < 1073741824; decide), fun H2 j v2 l2 e2 k2 W2 hl2 => ?_⟩
      have kk : Kp (At w) H1 H2 := (Kp.new nt).trans k2
      have hl2' : l2 = l1 ∨ H1 l2 = none := by
        rcases hl2 with z | z
        · exact .inl z
        · exact .inr ((same_new nt).free z)
      have num : ∀ z : Int, z.natAbs ≤ 2 * i.natAbs + 6 → Q (.int z) H2 := fun z hz => fin H2 l2 _ _ kk W2 hl2' (.int z) (big z hz) rfl
      match j, e2 with
      | 0, e => obtain rfl := Option.some.inj e; exact num _ (by omega)
      | 1, e => obtain rfl := Option.some.inj e; exact num _ (by omega)
      | 2, e => obtain rfl := Option.some.inj e; exact num _ (by omega)
      | 3, e => obtain rfl := Option.some.inj e; exact num _ (by omega)
      | 4, e => obtain rfl := Option.some.inj e; exact fin H2 l2 _ (.bool _) kk W2 hl2' (.bl _) trivial rfl
      | 5, e => obtain rfl := Option.some.inj e; exact num _ (by omega)
      | 6, e => obtain rfl := Option.some.inj e; exact fin H2 l2 _ (.str _) kk W2 hl2' (.str _) trivial rfl
      | 7, e => obtain rfl := Option.some.inj e; exact num _ (by omega)
      | j + 8, e => simp at e
    | tuple ds =>
      refine ifF (fun z => nomatch z) ?_
      refine ⟨_, rfl, S, v, _, "str", _, rfl, h1, kit_str _, _, rfl, ifF (fun z => nomatch z) ?_⟩
      refine ⟨_, rfl, S, v, _, rfl, h1, bd_mono (by omega) _ hb, fun H2 s2 => ⟨_, rfl, ?_⟩⟩
      have W2 := W1.same s2
      have h2 := h1.keep (Kp.same s2)
      have hS2 := hS1.keep (Kp.same s2) W2
      have fin2 : ∀ (H' : Hp) (l' : Addr) (v' : V) (d' : PyData), Kp (At w) H2 H' → WellAt w l' H' → (l' = l1 ∨ H2 l' = none) → Dq S H' v' d' → Bd 210 d' → lnB d' = true → Q v' H' := fun H' l' v' d' k W hl h b g =>
        fin H' l' v' d' ((Kp.same s2).trans k) W (hl.imp id s2.free) h b g
      obtain ⟨a, xs, rfl, naS, ea, el⟩ := h2.tupI
      have na : ¬ At w a := fun z => naS (by
        rw [show a = w from z]
        exact sw)
      have hlen := el.length
      have bds : BdAll 190 ds := hb
      obtain ⟨h10, hpl⟩ := hp
      -- what is neither a fraction that is bent
      have rest : ∀ (σ : L2.St), σ = [some (.ref w), some (.ref a), some (.int way), none] → True := fun _ _ => trivial
      refine ite2 (fun cf => ?_) (fun cf => ?_)
      · refine ⟨_, rfl, _, _, rfl, rfl, _, rfl, ite2 (fun c11 => ?_) (fun c11 => ?_)⟩
        · obtain ⟨r, hr⟩ := isFr_iff.mp cf
          have hr' : Bq.Sz 190 r := bd_fr.mp (by rw [← hr]; exact hb)
          have hv : FrR K H2 (.ref a) r := by
            rw [hr] at h2
            exact h2.fr
          refine ⟨_, rfl, _, rfl, ?_⟩
          refine (evd_tup (ds := lots) ?_ (by decide)) H2 _ fun v3 H3 s3 e3 => ?_
          · unfold lots
            repeat (first | exact evds_nil | refine evds_cons ?_ ?_ | exact evd_int | exact evd_neg | refine evd_tup ?_ (by decide))
          · cases e3 with
            | tup nb eb fl =>
              rename_i b ys
              have hll : ys.length = 6 := fl.length
              have W3 := W2.same s3
              have hwo : Old H2 w := by
                obtain ⟨_, _, _, e, _⟩ := W2
                show H2 w ≠ none
                rw [e]
                exact fun z => nomatch z
              have nbw : b ≠ w := fun z => nb (by rw [z]; exact hwo)
              refine ⟨w, l1, b, ys, rfl, W3, nbw, .inr (.of eb), by omega, by omega, fun H4 j y l4 hy k4 W4 hl4 => ?_⟩
              obtain ⟨d4, hd4, dq4⟩ := fl.at hy
              obtain ⟨o1, o2⟩ := lots_ok d4 (List.mem_of_getElem? hd4)
              obtain ⟨p, rfl⟩ := isFr_iff.mp o1
              have sp : Bq.Sz 10 p := bd_fr.mp (bd_of_bool _ o2)
              have k24 : Kp (At w) H2 H4 := (Kp.same s3).trans k4
              have dq5 := (dq4.weak (W := At w) fun x z => by rw [show x = w from z]; exact hwo).keep k4
              have hv4 : FrR K H4 (.ref a) r := by
                rw [hr] at h2
                exact (h2.keep (k24.ls sw)).fr
              refine ⟨.ref a, y, r, p, 190, 10, rfl, hv4, dq5.fr, hr', sp, by omega, fun x nx => ?_⟩
              exact fin2 _ l4 _ (frD (r + p)) (k24.trans (Kp.new nx)) (W4.new nx) (by
                rcases hl4 with z | z
                · exact .inl z
                · exact .inr (s3.free z)) (fr_dq ((hS2.keep k24 W4).new nx) upd_same) (bd_fr.mpr ((hr'.add sp).mono (by omega))) rfl
        · skip
          refine ⟨_, rfl, S, .ref a, .tuple ds, "tuple", _, rfl, h2, kit_tup _, _, rfl, ifF (fun z => nomatch z) ?_⟩
          refine ⟨_, rfl, Nat.zero_le _, fun b nb => ⟨a, b, xs, rfl, rfl, .of (same_new nb _ _ ea), .of upd_same, _, rfl, ?_⟩⟩
          have k3 : Kp (At w) H2 (upd H2 b (.tup [])) := Kp.new nb
          have W3 := W2.new (o := .tup []) nb
          have ea3 : (upd H2 b (.tup [])) a = some (.tup xs) := same_new nb _ _ ea
          have el3 := el.keep (k3.ls sw)
          have hS3 := hS2.keep k3 W3
          have fin3 : ∀ (H' : Hp) (l' : Addr) (v' : V) (d' : PyData), Kp (At w) (upd H2 b (.tup [])) H' → WellAt w l' H' → (l' = l1 ∨ (upd H2 b (.tup [])) l' = none) → Dq S H' v' d' → Bd 210 d' → lnB d' = true → Q v' H' := fun H' l' v' d' k W hl h b g =>
            fin2 H' l' v' d' (k3.trans k) W (hl.imp id (same_new nb).free) h b g
          generalize upd H2 b (.tup []) = H3 at W3 ea3 el3 hS3 fin3
          refine ite2 (fun c => ?_) (fun c => ?_)
          · exact ⟨_, rfl, w, l1, rfl, W3, fun H4 l4 v4 d4 k4 W4 hl4 e4 b4 g4 => fin3 H4 l4 v4 d4 k4 W4 hl4 (e4.weak hS3.old) (bd_mono (by omega) d4 b4) g4⟩
          have hpos : 0 < xs.length := by
            cases xs with
            | nil => exact absurd rfl c
            | cons x t => exact Nat.succ_pos _
          refine ⟨_, rfl, _, rfl, a, xs, rfl, .inr (.of ea3), w, l1, _, rfl, by omega, by omega, W3, fun H4 at4 l4 z0 z1 k4 W4 hl4 => ?_⟩
          obtain ⟨i, rfl⟩ : ∃ i : Nat, at4 = (i : Int) := ⟨at4.toNat, by omega⟩
          have hi : i < xs.length := by omega
          have ea4 := k4 _ _ na ea3
          have el4 := el3.keep (k4.ls sw)
          have hS4 := hS3.keep k4 W4
          have fin4 : ∀ (H' : Hp) (l' : Addr) (v' : V) (d' : PyData), Kp (At w) H4 H' → WellAt w l' H' → (l' = l4 ∨ H4 l' = none) → Dq S H' v' d' → Bd 210 d' → lnB d' = true → Q v' H' := fun H' l' v' d' k W hl h b g =>
            fin3 H' l' v' d' (k4.trans k) W (well_up hl4 hl k4 W) h b g
          have finT : ∀ (H5 : Hp) (l5 : Addr), Kp (At w) H4 H5 → WellAt w l5 H5 → (l5 = l4 ∨ H4 l5 = none) → ∀ (p : Addr) (H' : Hp) (zs : List V) (dz : List PyData), Same H5 H' → H' p = some (.tup zs) → DqAll S H5 zs dz → BdAll 210 dz → zs.length ≤ 100 → Q (.ref p) H' := fun H5 l5 k W hl p H' zs dz s e dq b hz =>
            fin4 H' l5 _ (.tuple dz) (k.trans (Kp.same s)) (W.same s) hl (.tup ((hS4.keep (k.trans (Kp.same s)) (W.same s)).tup e) e (dq.keep (Kp.same s))) b (ln_tup dq hz)
          have ei : ((i : Int) + 1) = ((i + 1 : Nat) : Int) := by omega
          have tk := dqAll_take i el4
          have dr := dqAll_drop i el4
          have dr1 := dqAll_drop (i + 1) el4
          have btk : BdAll 210 (ds.take i) := bd_sub bds (by omega) fun d hd => List.mem_of_mem_take hd
          have bdr : BdAll 210 (ds.drop i) := bd_sub bds (by omega) fun d hd => List.mem_of_mem_drop hd
          have bdr1 : BdAll 210 (ds.drop (i + 1)) := bd_sub bds (by omega) fun d hd => List.mem_of_mem_drop hd
          refine ⟨_, rfl, rfl, _, rfl, ite2 (fun c1 => ?_) (fun c1 => ?_)⟩
          · -- way 1
            refine ⟨_, rfl, _, rfl, _, rfl, sl_by ea4 fun p5 H5 s5 e5 _ => ⟨_, rfl, _, rfl, _, _, rfl, rfl, _, rfl, ?_⟩⟩
            dsimp only [tNoPart]
            refine sl_by (s5 _ _ ea4) fun p6 H6 s6 e6 _ => ?_
            rw [cut_to (Nat.le_of_lt hi)] at e5
            rw [ei, cut_from (by omega)] at e6
            refine cat_by (s6 _ _ e5) e6 (by rw [List.length_take, List.length_drop]; omega) fun p7 H7 s7 e7 _ => ?_
            exact finT H4 l4 (.refl _) W4 (.inl rfl) p7 H7 _ _ ((s5.trans s6).trans s7) e7 (tk.app dr1) (bd_app btk bdr1) (by simp only [List.length_append, List.length_take, List.length_drop, List.length_reverse, List.length_cons, List.length_nil]; omega)
          refine ⟨_, rfl, rfl, _, rfl, ite2 (fun c2 => ?_) (fun c2 => ?_)⟩
          · -- way 2
            refine ⟨_, rfl, _, rfl, _, rfl, sl_by ea4 fun p5 H5 s5 e5 _ => ⟨_, rfl, _, rfl, _, rfl, _, rfl, _, _, rfl, rfl, _, rfl, ?_⟩⟩
            refine sl_by (s5 _ _ ea4) fun p6 H6 s6 e6 _ => ?_
            rw [cut_to (Nat.le_of_lt hi)] at e5
            rw [ei, cut_mid (by omega) (by omega)] at e6
            refine cat_by (s6 _ _ e5) e6 (by rw [List.length_take, List.length_take, List.length_drop]; omega) fun p7 H7 s7 e7 _ => ⟨_, rfl, _, rfl, _, rfl, ?_⟩
            dsimp only [tNoPart]
            have s57 := (s5.trans s6).trans s7
            refine sl_by (s57 _ _ ea4) fun p8 H8 s8 e8 _ => ?_
            rw [cut_from (by omega)] at e8
            refine cat_by (s8 _ _ e7) e8 (by rw [List.length_append, List.length_take, List.length_take, List.length_drop]; omega) fun p9 H9 s9 e9 _ => ?_
            exact finT H4 l4 (.refl _) W4 (.inl rfl) p9 H9 _ _ ((s57.trans s8).trans s9) e9 ((tk.app (dqAll_take _ dr)).app dr) (bd_app (bd_app btk (bd_sub bdr (Nat.le_refl _) fun d hd => List.mem_of_mem_take hd)) bdr) (by simp only [List.length_append, List.length_take, List.length_drop, List.length_reverse, List.length_cons, List.length_nil]; omega)
          refine ⟨_, rfl, rfl, _, rfl, ite2 (fun c3 => ?_) (fun c3 => ?_)⟩
          · -- way 3
            refine ⟨_, rfl, w, l4, _, rfl, by omega, by omega, W4, fun H5 z l5 u0 u1 k5 W5 hl5 => ⟨_, _, rfl, rfl, _, rfl, ite2 (fun c => ?_) (fun c => ?_)⟩⟩
            · refine ⟨_, rfl, a, xs, rfl, .of (k5 _ _ na ea4), fun p np => ?_⟩
              exact finT H5 l5 k5 W5 hl5 p _ _ _ (same_new np) upd_same (dqAll_rev (el4.keep (k5.ls sw))) (bd_sub bds (by omega) fun d hd => List.mem_reverse.mp hd) (by simp only [List.length_append, List.length_take, List.length_drop, List.length_reverse, List.length_cons, List.length_nil]; omega)
            · refine ⟨_, rfl, a, xs, rfl, .inr (.of (k5 _ _ na ea4)), fun p np => ?_⟩
              exact fin4 _ l5 _ (.list ds) (k5.trans (Kp.new np)) (W5.new np) hl5 (.lst ((hS4.keep k5 W5).new np) upd_same ((el4.keep (k5.ls sw)).keep (Kp.new np))) (bdAll_mono (by omega) ds bds) rfl
          refine ⟨_, rfl, rfl, _, rfl, ite2 (fun c4 => ?_) (fun c4 => ?_)⟩
          · -- way 4
            refine ⟨_, rfl, _, rfl, _, rfl, sl_by ea4 fun p5 H5 s5 e5 _ => ⟨_, rfl, w, l4, rfl, W4.same s5, fun H6 l6 v6 d6 k6 W6 hl6 dq6 b6 _ => ⟨sz63 (by show 1 ≤ 1000; decide), fun t nt => ?_⟩⟩⟩
            rw [cut_to (Nat.le_of_lt hi)] at e5
            have k46 : Kp (At w) H4 H6 := (Kp.same s5).trans k6
            have hl46 : l6 = l4 ∨ H4 l6 = none := hl6.imp id s5.free
            have e5' : H6 p5 = some (.tup (xs.take i)) := k6 _ _ ((W4.same s5).notTup e5) e5
            refine cat_by (same_new nt _ _ e5') upd_same (by rw [List.length_take]; simp; omega) fun p7 H7 s7 e7 _ => ⟨_, rfl, _, rfl, _, rfl, ?_⟩
            dsimp only [tNoPart]
            have s67 := (same_new (o := .tup [v6]) nt).trans s7
            refine sl_by (s67 _ _ (k46 _ _ na ea4)) fun p8 H8 s8 e8 _ => ?_
            rw [cut_from (by omega)] at e8
            refine cat_by (s8 _ _ e7) e8 (by rw [List.length_append, List.length_take, List.length_drop]; simp; omega) fun p9 H9 s9 e9 _ => ?_
            exact finT H6 l6 k46 W6 hl46 p9 H9 _ _ ((s67.trans s8).trans s9) e9 (((tk.keep (k46.ls sw)).app (.cons (dq6.weak (hS4.keep (Kp.same s5) (W4.same s5)).old) .nil)).app (dr.keep (k46.ls sw))) (bd_app (bd_app btk ⟨bd_mono (by omega) d6 b6, trivial⟩) bdr) (by simp only [List.length_append, List.length_take, List.length_drop, List.length_reverse, List.length_cons, List.length_nil]; omega)
          refine ⟨_, rfl, rfl, _, rfl, ite2 (fun c5 => ?_) (fun c5 => ?_)⟩
          · -- way 5
            refine ⟨_, rfl, _, rfl, _, rfl, ?_⟩
            dsimp only [tNoPart]
            refine sl_by ea4 fun p5 H5 s5 e5 _ => ⟨_, rfl, _, rfl, _, rfl, sl_by (s5 _ _ ea4) fun p6 H6 s6 e6 _ => ?_⟩
            rw [cut_from (by omega)] at e5
            rw [cut_to (Nat.le_of_lt hi)] at e6
            refine cat_by (s6 _ _ e5) e6 (by rw [List.length_take, List.length_drop]; omega) fun p7 H7 s7 e7 _ => ?_
            exact finT H4 l4 (.refl _) W4 (.inl rfl) p7 H7 _ _ ((s5.trans s6).trans s7) e7 (dr.app tk) (bd_app bdr btk) (by simp only [List.length_append, List.length_take, List.length_drop, List.length_reverse, List.length_cons, List.length_nil]; omega)
          -- otherwise one of its parts
          refine ⟨_, rfl, _, rfl, _, rfl, sl_by ea4 fun p5 H5 s5 e5 _ => ?_⟩
          rw [cut_to (Nat.le_of_lt hi)] at e5
          have ex : xs[i]? = some xs[i] := List.getElem?_eq_getElem hi
          obtain ⟨di, hdi, dqi⟩ := el4.at ex
          refine ⟨_, rfl, _, rfl, _, rfl, a, xs, (i : Int), _, rfl, rfl, .of (s5 _ _ ea4), atI_nat ex, S, w, l4, xs[i], di, rfl, sw, hS4.keep (Kp.same s5) (W4.same s5), W4.same s5, dqi.keep (Kp.same s5), hpl di (List.mem_of_getElem? hdi), bd_of bds hdi, fun H6 l6 v6 d6 k6 W6 hl6 dq6 b6 _ => ⟨sz63 (by show 1 ≤ 1000; decide), fun t nt => ?_⟩⟩
          have k46 : Kp (At w) H4 H6 := (Kp.same s5).trans k6
          have hl46 : l6 = l4 ∨ H4 l6 = none := hl6.imp id s5.free
          have e5' : H6 p5 = some (.tup (xs.take i)) := k6 _ _ ((W4.same s5).notTup e5) e5
          refine cat_by (same_new nt _ _ e5') upd_same (by rw [List.length_take]; simp; omega) fun p7 H7 s7 e7 _ => ⟨_, rfl, _, rfl, _, _, rfl, rfl, _, rfl, ?_⟩
          dsimp only [tNoPart]
          have s67 := (same_new (o := .tup [v6]) nt).trans s7
          refine sl_by (s67 _ _ (k46 _ _ na ea4)) fun p8 H8 s8 e8 _ => ?_
          rw [ei, cut_from (by omega)] at e8
          refine cat_by (s8 _ _ e7) e8 (by rw [List.length_append, List.length_take, List.length_drop]; simp; omega) fun p9 H9 s9 e9 _ => ?_
          exact finT H6 l6 k46 W6 hl46 p9 H9 _ _ ((s67.trans s8).trans s9) e9 (((tk.keep (k46.ls sw)).app (.cons dq6 .nil)).app (dr1.keep (k46.ls sw))) (bd_app (bd_app btk ⟨b6, trivial⟩) bdr1) (by simp only [List.length_append, List.length_take, List.length_drop, List.length_reverse, List.length_cons, List.length_nil]; omega)
      · skip
        refine ⟨_, rfl, S, .ref a, .tuple ds, "tuple", _, rfl, h2, kit_tup _, _, rfl, ifF (fun z => nomatch z) ?_⟩
        refine ⟨_, rfl, Nat.zero_le _, fun b nb => ⟨a, b, xs, rfl, rfl, .of (same_new nb _ _ ea), .of upd_same, _, rfl, ?_⟩⟩
        have k3 : Kp (At w) H2 (upd H2 b (.tup [])) := Kp.new nb
        have W3 := W2.new (o := .tup []) nb
        have ea3 : (upd H2 b (.tup [])) a = some (.tup xs) := same_new nb _ _ ea
        have el3 := el.keep (k3.ls sw)
        have hS3 := hS2.keep k3 W3
        have fin3 : ∀ (H' : Hp) (l' : Addr) (v' : V) (d' : PyData), Kp (At w) (upd H2 b (.tup [])) H' → WellAt w l' H' → (l' = l1 ∨ (upd H2 b (.tup [])) l' = none) → Dq S H' v' d' → Bd 210 d' → lnB d' = true → Q v' H' := fun H' l' v' d' k W hl h b g =>
          fin2 H' l' v' d' (k3.trans k) W (hl.imp id (same_new nb).free) h b g
        generalize upd H2 b (.tup []) = H3 at W3 ea3 el3 hS3 fin3
        refine ite2 (fun c => ?_) (fun c => ?_)
        · exact ⟨_, rfl, w, l1, rfl, W3, fun H4 l4 v4 d4 k4 W4 hl4 e4 b4 g4 => fin3 H4 l4 v4 d4 k4 W4 hl4 (e4.weak hS3.old) (bd_mono (by omega) d4 b4) g4⟩
        have hpos : 0 < xs.length := by
          cases xs with
          | nil => exact absurd rfl c
          | cons x t => exact Nat.succ_pos _
        refine ⟨_, rfl, _, rfl, a, xs, rfl, .inr (.of ea3), w, l1, _, rfl, by omega, by omega, W3, fun H4 at4 l4 z0 z1 k4 W4 hl4 => ?_⟩
        obtain ⟨i, rfl⟩ : ∃ i : Nat, at4 = (i : Int) := ⟨at4.toNat, by omega⟩
        have hi : i < xs.length := by omega
        have ea4 := k4 _ _ na ea3
        have el4 := el3.keep (k4.ls sw)
        have hS4 := hS3.keep k4 W4
        have fin4 : ∀ (H' : Hp) (l' : Addr) (v' : V) (d' : PyData), Kp (At w) H4 H' → WellAt w l' H' → (l' = l4 ∨ H4 l' = none) → Dq S H' v' d' → Bd 210 d' → lnB d' = true → Q v' H' := fun H' l' v' d' k W hl h b g =>
          fin3 H' l' v' d' (k4.trans k) W (well_up hl4 hl k4 W) h b g
        have finT : ∀ (H5 : Hp) (l5 : Addr), Kp (At w) H4 H5 → WellAt w l5 H5 → (l5 = l4 ∨ H4 l5 = none) → ∀ (p : Addr) (H' : Hp) (zs : List V) (dz : List PyData), Same H5 H' → H' p = some (.tup zs) → DqAll S H5 zs dz → BdAll 210 dz → zs.length ≤ 100 → Q (.ref p) H' := fun H5 l5 k W hl p H' zs dz s e dq b hz =>
          fin4 H' l5 _ (.tuple dz) (k.trans (Kp.same s)) (W.same s) hl (.tup ((hS4.keep (k.trans (Kp.same s)) (W.same s)).tup e) e (dq.keep (Kp.same s))) b (ln_tup dq hz)
        have ei : ((i : Int) + 1) = ((i + 1 : Nat) : Int) := by omega
        have tk := dqAll_take i el4
        have dr := dqAll_drop i el4
        have dr1 := dqAll_drop (i + 1) el4
        have btk : BdAll 210 (ds.take i) := bd_sub bds (by omega) fun d hd => List.mem_of_mem_take hd
        have bdr : BdAll 210 (ds.drop i) := bd_sub bds (by omega) fun d hd => List.mem_of_mem_drop hd
        have bdr1 : BdAll 210 (ds.drop (i + 1)) := bd_sub bds (by omega) fun d hd => List.mem_of_mem_drop hd
        refine ⟨_, rfl, rfl, _, rfl, ite2 (fun c1 => ?_) (fun c1 => ?_)⟩
        · -- way 1
          refine ⟨_, rfl, _, rfl, _, rfl, sl_by ea4 fun p5 H5 s5 e5 _ => ⟨_, rfl, _, rfl, _, _, rfl, rfl, _, rfl, ?_⟩⟩
          dsimp only [tNoPart]
          refine sl_by (s5 _ _ ea4) fun p6 H6 s6 e6 _ => ?_
          rw [cut_to (Nat.le_of_lt hi)] at e5
          rw [ei, cut_from (by omega)] at e6
          refine cat_by (s6 _ _ e5) e6 (by rw [List.length_take, List.length_drop]; omega) fun p7 H7 s7 e7 _ => ?_
          exact finT H4 l4 (.refl _) W4 (.inl rfl) p7 H7 _ _ ((s5.trans s6).trans s7) e7 (tk.app dr1) (bd_app btk bdr1) (by simp only [List.length_append, List.length_take, List.length_drop, List.length_reverse, List.length_cons, List.length_nil]; omega)
        refine ⟨_, rfl, rfl, _, rfl, ite2 (fun c2 => ?_) (fun c2 => ?_)⟩
        · -- way 2
          refine ⟨_, rfl, _, rfl, _, rfl, sl_by ea4 fun p5 H5 s5 e5 _ => ⟨_, rfl, _, rfl, _, rfl, _, rfl, _, _, rfl, rfl, _, rfl, ?_⟩⟩
          refine sl_by (s5 _ _ ea4) fun p6 H6 s6 e6 _ => ?_
          rw [cut_to (Nat.le_of_lt hi)] at e5
          rw [ei, cut_mid (by omega) (by omega)] at e6
          refine cat_by (s6 _ _ e5) e6 (by rw [List.length_take, List.length_take, List.length_drop]; omega) fun p7 H7 s7 e7 _ => ⟨_, rfl, _, rfl, _, rfl, ?_⟩
          dsimp only [tNoPart]
          have s57 := (s5.trans s6).trans s7
          refine sl_by (s57 _ _ ea4) fun p8 H8 s8 e8 _ => ?_
          rw [cut_from (by omega)] at e8
          refine cat_by (s8 _ _ e7) e8 (by rw [List.length_append, List.length_take, List.length_take, List.length_drop]; omega) fun p9 H9 s9 e9 _ => ?_
          exact finT H4 l4 (.refl _) W4 (.inl rfl) p9 H9 _ _ ((s57.trans s8).trans s9) e9 ((tk.app (dqAll_take _ dr)).app dr) (bd_app (bd_app btk (bd_sub bdr (Nat.le_refl _) fun d hd => List.mem_of_mem_take hd)) bdr) (by simp only [List.length_append, List.length_take, List.length_drop, List.length_reverse, List.length_cons, List.length_nil]; omega)
        refine ⟨_, rfl, rfl, _, rfl, ite2 (fun c3 => ?_) (fun c3 => ?_)⟩
        · -- way 3
          refine ⟨_, rfl, w, l4, _, rfl, by omega, by omega, W4, fun H5 z l5 u0 u1 k5 W5 hl5 => ⟨_, _, rfl, rfl, _, rfl, ite2 (fun c => ?_) (fun c => ?_)⟩⟩
          · refine ⟨_, rfl, a, xs, rfl, .of (k5 _ _ na ea4), fun p np => ?_⟩
            exact finT H5 l5 k5 W5 hl5 p _ _ _ (same_new np) upd_same (dqAll_rev (el4.keep (k5.ls sw))) (bd_sub bds (by omega) fun d hd => List.mem_reverse.mp hd) (by simp only [List.length_append, List.length_take, List.length_drop, List.length_reverse, List.length_cons, List.length_nil]; omega)
          · refine ⟨_, rfl, a, xs, rfl, .inr (.of (k5 _ _ na ea4)), fun p np => ?_⟩
            exact fin4 _ l5 _ (.list ds) (k5.trans (Kp.new np)) (W5.new np) hl5 (.lst ((hS4.keep k5 W5).new np) upd_same ((el4.keep (k5.ls sw)).keep (Kp.new np))) (bdAll_mono (by omega) ds bds) rfl
        refine ⟨_, rfl, rfl, _, rfl, ite2 (fun c4 => ?_) (fun c4 => ?_)⟩
        · -- way 4
          refine ⟨_, rfl, _, rfl, _, rfl, sl_by ea4 fun p5 H5 s5 e5 _ => ⟨_, rfl, w, l4, rfl, W4.same s5, fun H6 l6 v6 d6 k6 W6 hl6 dq6 b6 _ => ⟨sz63 (by show 1 ≤ 1000; decide), fun t nt => ?_⟩⟩⟩
          rw [cut_to (Nat.le_of_lt hi)] at e5
          have k46 : Kp (At w) H4 H6 := (Kp.same s5).trans k6
          have hl46 : l6 = l4 ∨ H4 l6 = none := hl6.imp id s5.free
          have e5' : H6 p5 = some (.tup (xs.take i)) := k6 _ _ ((W4.same s5).notTup e5) e5
          refine cat_by (same_new nt _ _ e5') upd_same (by rw [List.length_take]; simp; omega) fun p7 H7 s7 e7 _ => ⟨_, rfl, _, rfl, _, rfl, ?_⟩
          dsimp only [tNoPart]
          have s67 := (same_new (o := .tup [v6]) nt).trans s7
          refine sl_by (s67 _ _ (k46 _ _ na ea4)) fun p8 H8 s8 e8 _ => ?_
          rw [cut_from (by omega)] at e8
          refine cat_by (s8 _ _ e7) e8 (by rw [List.length_append, List.length_take, List.length_drop]; simp; omega) fun p9 H9 s9 e9 _ => ?_
          exact finT H6 l6 k46 W6 hl46 p9 H9 _ _ ((s67.trans s8).trans s9) e9 (((tk.keep (k46.ls sw)).app (.cons (dq6.weak (hS4.keep (Kp.same s5) (W4.same s5)).old) .nil)).app (dr.keep (k46.ls sw))) (bd_app (bd_app btk ⟨bd_mono (by omega) d6 b6, trivial⟩) bdr) (by simp only [List.length_append, List.length_take, List.length_drop, List.length_reverse, List.length_cons, List.length_nil]; omega)
        refine ⟨_, rfl, rfl, _, rfl, ite2 (fun c5 => ?_) (fun c5 => ?_)⟩
        · -- way 5
          refine ⟨_, rfl, _, rfl, _, rfl, ?_⟩
          dsimp only [tNoPart]
          refine sl_by ea4 fun p5 H5 s5 e5 _ => ⟨_, rfl, _, rfl, _, rfl, sl_by (s5 _ _ ea4) fun p6 H6 s6 e6 _ => ?_⟩
          rw [cut_from (by omega)] at e5
          rw [cut_to (Nat.le_of_lt hi)] at e6
          refine cat_by (s6 _ _ e5) e6 (by rw [List.length_take, List.length_drop]; omega) fun p7 H7 s7 e7 _ => ?_
          exact finT H4 l4 (.refl _) W4 (.inl rfl) p7 H7 _ _ ((s5.trans s6).trans s7) e7 (dr.app tk) (bd_app bdr btk) (by simp only [List.length_append, List.length_take, List.length_drop, List.length_reverse, List.length_cons, List.length_nil]; omega)
        -- otherwise one of its parts
        refine ⟨_, rfl, _, rfl, _, rfl, sl_by ea4 fun p5 H5 s5 e5 _ => ?_⟩
        rw [cut_to (Nat.le_of_lt hi)] at e5
        have ex : xs[i]? = some xs[i] := List.getElem?_eq_getElem hi
        obtain ⟨di, hdi, dqi⟩ := el4.at ex
        refine ⟨_, rfl, _, rfl, _, rfl, a, xs, (i : Int), _, rfl, rfl, .of (s5 _ _ ea4), atI_nat ex, S, w, l4, xs[i], di, rfl, sw, hS4.keep (Kp.same s5) (W4.same s5), W4.same s5, dqi.keep (Kp.same s5), hpl di (List.mem_of_getElem? hdi), bd_of bds hdi, fun H6 l6 v6 d6 k6 W6 hl6 dq6 b6 _ => ⟨sz63 (by show 1 ≤ 1000; decide), fun t nt => ?_⟩⟩
        have k46 : Kp (At w) H4 H6 := (Kp.same s5).trans k6
        have hl46 : l6 = l4 ∨ H4 l6 = none := hl6.imp id s5.free
        have e5' : H6 p5 = some (.tup (xs.take i)) := k6 _ _ ((W4.same s5).notTup e5) e5
        refine cat_by (same_new nt _ _ e5') upd_same (by rw [List.length_take]; simp; omega) fun p7 H7 s7 e7 _ => ⟨_, rfl, _, rfl, _, _, rfl, rfl, _, rfl, ?_⟩
        dsimp only [tNoPart]
        have s67 := (same_new (o := .tup [v6]) nt).trans s7
        refine sl_by (s67 _ _ (k46 _ _ na ea4)) fun p8 H8 s8 e8 _ => ?_
        rw [ei, cut_from (by omega)] at e8
        refine cat_by (s8 _ _ e7) e8 (by rw [List.length_append, List.length_take, List.length_drop]; simp; omega) fun p9 H9 s9 e9 _ => ?_
        exact finT H6 l6 k46 W6 hl46 p9 H9 _ _ ((s67.trans s8).trans s9) e9 (((tk.keep (k46.ls sw)).app (.cons dq6 .nil)).app (dr1.keep (k46.ls sw))) (bd_app (bd_app btk ⟨b6, trivial⟩) bdr1) (by simp only [List.length_append, List.length_take, List.length_drop, List.length_reverse, List.length_cons, List.length_nil]; omega)
    | _ => exact False.elim hp
/-- at any depth -/
theorem ok_bent {f : Addr} {fd : FuncData} (F : Fun K "_law_bent" "_law_bent" s_law_bent f fd) (M : Mb mg) (g : mg "_law_bent" = some (.ref f)) (kp : PySem.W.keepIn K (.ref f) = true) (b : Binds K fd ["well", "thing"] []) (Dlaw_pick : Df P w K mg base 1 "_law_pick" ["well", "limit"] spPickL)
    (Dlaw_of : Df P w K mg base 2 "_law_of" ["well", "some"] (spOfL K)) (Dlaw_odd : Df P w K mg base 3 "_law_odd" ["well"] spOdd) (Dlaw_is_number : Df P w K mg base 1 "_law_is_number" ["thing"] (spAsk isNum))
    (Dlaw_is_frac : Df P w K mg base 2 "_law_is_frac" ["thing"] (spAskB 300 isFr)) (Dlaw_plus : Df P w K mg base 2 "_law_plus" ["here", "there"] (spPlus K)) : ∀ D : Nat, FnOk P w K mg base CX0 (5 + D) f fd ["well", "thing"] (spBent D)
  | 0 => ⟨fun vs H Q E ⟨_, _, _, _, _, _, _, _, _, _, z, _⟩ => z.elim, fun A outer s H args us vs Q E _ _ _ _ ⟨_, _, _, _, _, _, _, _, _, _, z, _⟩ => z.elim⟩
  | D + 1 => ok_bentS F M Dlaw_pick Dlaw_of Dlaw_odd Dlaw_is_number Dlaw_is_frac Dlaw_plus ⟨f, fd, g, kp, b, ok_bent F M g kp b Dlaw_pick Dlaw_of Dlaw_odd Dlaw_is_number Dlaw_is_frac Dlaw_plus D⟩
end
end Kx
set_option exponentiation.threshold 4000
/-! The law's own shares: places left out one by one. -/
namespace Kx
open PySem PySem.Spec PyProof.Rows L2 Bw
abbrev s_law_times : Stmt := topS 36
abbrev n_law_times : List Str := ["here", "there"]
theorem c_law_times : FnScope n_law_times ["here", "there"] (defScope s_law_times) :=
  ⟨rfl, rfl, rfl, by decide +kernel, rfl, by decide +kernel, by decide +kernel⟩

abbrev s_law_shares : Stmt := topS 43
abbrev n_law_shares : List Str := ["going", "many", "rows", "row", "last", "goes", "here", "there", "gain", "found", "at"]
theorem c_law_shares : FnScope n_law_shares ["going"] (defScope s_law_shares) :=
  ⟨rfl, rfl, rfl, by decide +kernel, rfl, by decide +kernel, by decide +kernel⟩

/-- the fraction q, a tuple of the heap -/
def FrA (H : Hp) (v : V) (q : Rat) : Prop := ∃ a, v = .ref a ∧ H a = some (.tup [.int q.num, .int q.den])
theorem FrA.same {H H' : Hp} {v : V} {q : Rat} (s : Same H H') (h : FrA H v q) : FrA H' v q := by
  obtain ⟨a, rfl, e⟩ := h
  exact ⟨a, rfl, s _ _ e⟩
theorem FrA.fr {K : PySem.W.Frag} {H : Hp} {v : V} {q : Rat} (h : FrA H v q) : FrR K H v q := by
  obtain ⟨a, rfl, e⟩ := h
  exact ⟨a, rfl, .of e⟩
theorem FrA.frame {H : Hp} {v : V} {q : Rat} {m : Addr} {o : HO} (h : FrA H v q) (hm : ∀ xs, H m ≠ some (.tup xs)) : FrA (upd H m o) v q := by
  obtain ⟨a, rfl, e⟩ := h
  exact ⟨a, rfl, tup_frame hm _ _ e⟩
theorem dq_frA {W : Addr → Prop} {H : Hp} {v : V} {q : Rat} (h : Dq W H v (frD q)) : FrA H v q := by
  obtain ⟨a, rfl, _, e⟩ := h.frI
  exact ⟨a, rfl, e⟩
/-- a square of fractions in lists of its own -/
structure MatH (H0 H : Hp) (D : Addr) (rs : List Addr) (n : Nat) (R : Nat → Nat → Rat) : Prop where
  s : Same H0 H
  eD : H D = some (.lst (rs.map V.ref))
  len : rs.length = n
  nd : ∀ (i j : Nat) r, rs[i]? = some r → rs[j]? = some r → i = j
  row : ∀ (i : Nat) r, rs[i]? = some r → ∃ xs, H r = some (.lst xs) ∧ xs.length = n ∧ ∀ (j : Nat) v, xs[j]? = some v → FrA H v (R i j)
  n1 : H0 D = none
  n2 : ∀ r ∈ rs, H0 r = none ∧ r ≠ D
section
variable {H0 H H' : Hp} {D m : Addr} {rs : List Addr} {n : Nat} {R : Nat → Nat → Rat} {o : HO}
theorem MatH.grow (h : MatH H0 H D rs n R) (s : Same H H') : MatH H0 H' D rs n R :=
  ⟨h.s.trans s, s _ _ h.eD, h.len, h.nd, fun i r e => by
    obtain ⟨xs, e1, e2, e3⟩ := h.row i r e
    exact ⟨xs, s _ _ e1, e2, fun j v ev => (e3 j v ev).same s⟩, h.n1, h.n2⟩
theorem MatH.at (h : MatH H0 H D rs n R) {i : Nat} (hi : i < n) : ∃ r xs, rs[i]? = some r ∧ H r = some (.lst xs) ∧ xs.length = n ∧ ∀ (j : Nat) v, xs[j]? = some v → FrA H v (R i j) := by
  have hl := h.len
  have e : rs[i]? = some (rs[i]'(by omega)) := List.getElem?_eq_getElem (by omega)
  obtain ⟨xs, e1, e2, e3⟩ := h.row i _ e
  exact ⟨_, xs, e, e1, e2, e3⟩
theorem MatH.set (h : MatH H0 H D rs n R) {a b : Nat} {r : Addr} {xs : List V} {v : V} {q : Rat} (e1 : rs[a]? = some r) (ex : H r = some (.lst xs)) (hv : FrA H v q) :
    MatH H0 (upd H r (.lst (xs.set b v))) D rs n (fun i j => if i = a ∧ j = b then q else R i j) := by
  have hr := List.mem_of_getElem? e1
  obtain ⟨b1, b2⟩ := h.n2 r hr
  have nt : ∀ xs, H r ≠ some (.tup xs) := fun xs => by rw [ex]; exact fun z => nomatch z
  obtain ⟨xs', ex', hl, ha⟩ := h.row a r e1
  rw [ex] at ex'
  cases ex'
  refine ⟨same_mut h.s b1, by rw [upd_ne (Ne.symm b2)]; exact h.eD, h.len, h.nd, fun i r' f1 => ?_, h.n1, h.n2⟩
  by_cases c : i = a
  · subst c
    rw [e1] at f1
    obtain rfl := Option.some.inj f1
    refine ⟨_, upd_same, by rw [List.length_set, hl], fun j u g => ?_⟩
    by_cases cj : j = b
    · subst cj
      have l1 := (List.getElem?_eq_some_iff.mp g).1
      rw [List.length_set] at l1
      rw [List.getElem?_set_self l1] at g
      obtain rfl := Option.some.inj g
      rw [if_pos ⟨rfl, rfl⟩]
      exact hv.frame nt
    · rw [List.getElem?_set_ne (Ne.symm cj)] at g
      rw [if_neg fun z => cj z.2]
      exact (ha j u g).frame nt
  · have ne : r' ≠ r := fun z => c (h.nd i a r (by rw [← z]; exact f1) e1)
    obtain ⟨ys, g1, g2, g3⟩ := h.row i r' f1
    refine ⟨ys, by rw [upd_ne ne]; exact g1, g2, fun j u g => ?_⟩
    rw [if_neg fun z => c z.1]
    exact (g3 j u g).frame nt
end
/-- what stands in cell i, j: l the last place that is left, row h under way, c of its cells done -/
def kyN (l j : Nat) : Nat := if j = l then 0 else j + 1
def dnN (l h c i j : Nat) : Prop := i < h ∨ (i = h ∧ kyN l j < c)
instance {l h c i j : Nat} : Decidable (dnN l h c i j) := by
  unfold dnN
  exact inferInstance
def vF (n : Nat) (M : Nat → Nat → Nat) (l h c i j : Nat) : Rat :=
  if l < j then bkQ j (stg n M (n - 1 - j)) i
  else if dnN l h c i j then (if j = l then bkQ l (stg n M (n - 1 - l)) i else chQ l (el (stg n M (n - 1 - l)) l) i j)
  else chQ (l + 1) (stg n M (n - 1 - l)) i j
def Tell (n : Nat) (M : Nat → Nat → Nat) (l h c : Nat) (R : Nat → Nat → Rat) : Prop := ∀ i j, i < n → j < n → (l < j → i < j) → (j ≤ l → i ≤ l) → R i j = vF n M l h c i j
theorem Tell.set {n : Nat} {M : Nat → Nat → Nat} {l h c : Nat} {R : Nat → Nat → Rat} (t : Tell n M l h c R) {b : Nat} (hb : b ≤ l) (hc : kyN l b = c) {q : Rat} (hq : q = vF n M l h (c + 1) h b) :
    Tell n M l h (c + 1) (fun i j => if i = h ∧ j = b then q else R i j) := by
  intro i j hi hj r1 r2
  by_cases z : i = h ∧ j = b
  · show (if i = h ∧ j = b then q else R i j) = _
    rw [if_pos z, hq, z.1, z.2]
  · show (if i = h ∧ j = b then q else R i j) = _
    rw [if_neg z, t i j hi hj r1 r2]
    unfold vF
    by_cases z1 : l < j
    · rw [if_pos z1, if_pos z1]
    · rw [if_neg z1, if_neg z1]
      have e : dnN l h c i j ↔ dnN l h (c + 1) i j := by
        unfold dnN
        unfold kyN at *
        constructor
        · rintro (y | ⟨y1, y2⟩)
          · exact .inl y
          · exact .inr ⟨y1, by omega⟩
        · rintro (y | ⟨y1, y2⟩)
          · exact .inl y
          · refine .inr ⟨y1, ?_⟩
            have : j ≠ b := fun g => z ⟨y1, g⟩
            split at y2 <;> split at hc <;> (try split) <;> omega
      by_cases y : dnN l h c i j
      · rw [if_pos y, if_pos (e.mp y)]
      · rw [if_neg y, if_neg fun g => y (e.mpr g)]
theorem Tell.next {n : Nat} {M : Nat → Nat → Nat} {l h : Nat} {R : Nat → Nat → Rat} (t : Tell n M l h (l + 1) R) : Tell n M l (h + 1) 0 R := by
  intro i j hi hj r1 r2
  rw [t i j hi hj r1 r2]
  unfold vF
  by_cases z1 : l < j
  · rw [if_pos z1, if_pos z1]
  · rw [if_neg z1, if_neg z1]
    have e : dnN l h (l + 1) i j ↔ dnN l (h + 1) 0 i j := by
      unfold dnN kyN
      constructor
      · rintro (y | ⟨y1, y2⟩)
        · exact .inl (by omega)
        · exact .inl (by omega)
      · rintro (y | ⟨y1, y2⟩)
        · by_cases g : i = h
          · refine .inr ⟨g, ?_⟩
            split <;> omega
          · exact .inl (by omega)
        · omega
    by_cases y : dnN l h (l + 1) i j
    · rw [if_pos y, if_pos (e.mp y)]
    · rw [if_neg y, if_neg fun g => y (e.mpr g)]
theorem Tell.down {n : Nat} {M : Nat → Nat → Nat} {l : Nat} {R : Nat → Nat → Rat} (hn : l + 1 < n) (t : Tell n M (l + 1) (l + 1) 0 R) : Tell n M l 0 0 R := by
  intro i j hi hj r1 r2
  have nd0 : ¬ dnN l 0 0 i j := by
    unfold dnN
    omega
  rw [t i j hi hj (fun z => r1 (by omega)) (fun z => by
    by_cases y : j ≤ l
    · have := r2 y
      omega
    · have := r1 (by omega)
      omega)]
  unfold vF
  by_cases z1 : l + 1 < j
  · rw [if_pos z1, if_pos (by omega)]
  · rw [if_neg z1]
    by_cases z2 : l < j
    · have ej : j = l + 1 := by omega
      subst ej
      have := r1 z2
      rw [if_pos (.inl this), if_pos rfl, if_pos z2]
    · have hi2 := r2 (by omega)
      rw [if_pos (.inl (by omega)), if_neg (by omega), if_neg z2, if_neg nd0]
      have e : n - 1 - l = (n - 1 - (l + 1)) + 1 := by omega
      rw [e]
      show _ = chQ (l + 1) (el (stg n M (n - 1 - (l + 1))) (n - 1 - (n - 1 - (l + 1)))) i j
      have e2 : n - 1 - (n - 1 - (l + 1)) = l + 1 := by omega
      rw [e2]
theorem Tell.start {n : Nat} {M : Nat → Nat → Nat} {R : Nat → Nat → Rat} (hn : 1 ≤ n) (h : ∀ i j, i < n → j < n → R i j = chQ n M i j) : Tell n M (n - 1) 0 0 R := by
  intro i j hi hj r1 r2
  unfold vF
  rw [if_neg (by omega), if_neg (by unfold dnN; omega), h i j hi hj]
  have e : n - 1 + 1 = n := by omega
  have e2 : n - 1 - (n - 1) = 0 := by omega
  rw [e, e2]
  rfl
theorem _root_.Bw.Wk.st2 {n : Nat} {M : List (List Nat)} (h : Wk n M) {l : Nat} (hl : l < n) : StrN (l + 1) (stg n (mf M) (n - 1 - l)) := by
  have z := stg_str h.st (n - 1 - l) (by omega)
  have e : n - (n - 1 - l) = l + 1 := by omega
  rw [e] at z
  exact z
theorem _root_.Bw.Wk.ch_sz2 {n : Nat} {M : List (List Nat)} (h : Wk n M) {l i j : Nat} (h1 : 1 ≤ l) (hl : l < n) (hi : i ≤ l) (hj : j ≤ l) : Bq.Sz 383 (chQ (l + 1) (stg n (mf M) (n - 1 - l)) i j) := by
  have z := h.ch_sz (t := n - 1 - l) (by omega) (i := i) (j := j) (by omega) (by omega)
  have e : n - (n - 1 - l) = l + 1 := by omega
  rw [e] at z
  exact z
def goQ (n : Nat) (M : List (List Nat)) (l : Nat) : Rat := fQ (gN (stg n (mf M) (n - 1 - l)) l) / fQ (sN (l + 1) (stg n (mf M) (n - 1 - l) l))
theorem _root_.Bw.Wk.go_pos {n : Nat} {M : List (List Nat)} (h : Wk n M) {l : Nat} (h1 : 1 ≤ l) (hl : l < n) : 0 < goQ n M l :=
  div_pos (fQ_pos (g_pos (h.st2 hl) h1)) (fQ_pos (out_pos (h.st2 hl) (by omega) (by omega)))
theorem _root_.Bw.Wk.go_sz {n : Nat} {M : List (List Nat)} (h : Wk n M) {l : Nat} (h1 : 1 ≤ l) (hl : l < n) : Bq.Sz 383 (goQ n M l) := by
  have n6 := h.n6
  have hb := bit_le (k := n - 1 - l) h.n6 (by omega)
  have lt := stg_lt h.n6 h.k (n - 1 - l) (by omega)
  have e : n - (n - 1 - l) = l + 1 := by omega
  rw [e] at lt
  refine fQ_sz (Nat.lt_of_lt_of_le (sN_bits (b := bitN 20 (n - 1 - l)) (by omega) fun j hj => lt l j (by omega) (by omega)) (pow_le (by omega))) (Nat.lt_of_lt_of_le (sN_bits (b := bitN 20 (n - 1 - l)) (by omega) fun j hj => lt l j (by omega) (by omega)) (pow_le (by omega))) (out_pos (h.st2 hl) (by omega) (by omega))
theorem MatH.other {H0 H : Hp} {D m : Addr} {rs : List Addr} {n : Nat} {R : Nat → Nat → Rat} {o : HO} (h : MatH H0 H D rs n R) (hm : ∀ xs, H m ≠ some (.tup xs)) (m0 : H0 m = none) (h1 : m ≠ D) (h2 : m ∉ rs) : MatH H0 (upd H m o) D rs n R :=
  ⟨same_mut h.s m0, by rw [upd_ne (Ne.symm h1)]; exact h.eD, h.len, h.nd, fun i r e => by
    obtain ⟨xs, e1, e2, e3⟩ := h.row i r e
    have ne : r ≠ m := fun z => h2 (by rw [← z]; exact List.mem_of_getElem? e)
    exact ⟨xs, by rw [upd_ne ne]; exact e1, e2, fun j v ev => (e3 j v ev).frame hm⟩, h.n1, h.n2⟩
section
variable {P : Program} {w : World} {K : PySem.W.Frag} {mg : Str → Option Value} {base : Heap}
/-- the product of two fractions -/
def spTimes (K : PySem.W.Frag) : Sp := fun vs H Q _ => ∃ (v u : V) (p q : Rat) (m n : Nat), vs = [v, u] ∧ FrR K H v p ∧ FrR K H u q ∧ Bq.Sz m p ∧ Bq.Sz n q ∧ m + n ≤ 9000 ∧
  ∀ a, H a = none → Q (.ref a) (upd H a (.tup [.int (p * q).num, .int (p * q).den]))
theorem ok_ltimes {f : Addr} {fd : FuncData} (F : Fun K "_law_times" "_law_times" s_law_times f fd) (M : Mb mg) (Dlaw_frac : Df P w K mg base 1 "_law_frac" ["up", "down"] spLowest) : FnOk P w K mg base CX0 2 f fd ["here", "there"] (spTimes K) := by
  refine F.ok c_law_times (fun vs H Q E h => ?_) (fun cdv A outer s H vs Q E hr h => ?_)
  · obtain ⟨v, u, p, q, m, n, rfl, _⟩ := h
    rfl
  · obtain ⟨v, u, p, r, m, n, rfl, ⟨a, rfl, ha⟩, ⟨b, rfl, hb⟩, sp, sr, hmn, q⟩ := h
    refine ⟨_, (pss_one (ps_ret (pe_call Dlaw_frac.G (hr.mono (by first | decide | omega)) rfl Dlaw_frac.g Dlaw_frac.kp Dlaw_frac.b .nil pass0 (pa_cons (pe_op op_mulW (pe_ix ix_tup (pv 0) pe_int (fun _ _ => rfl)) (pe_ix ix_tup (pv 1) pe_int (fun _ _ => rfl))) (pa_cons (pe_op op_mulW (pe_ix ix_tup (pv 0) pe_int (fun _ _ => rfl)) (pe_ix ix_tup (pv 1) pe_int (fun _ _ => rfl))) pa_nil))))), ?_⟩
    have m0 := sz_pos sp
    have n0 := sz_pos sr
    refine ⟨_, rfl, a, _, 0, _, rfl, rfl, ha, rfl, _, rfl, b, _, 0, _, rfl, rfl, hb, rfl, _, _, rfl, rfl, mulW sp.1 sr.1 m0 n0 hmn, ?_⟩
    refine ⟨_, rfl, a, _, 1, _, rfl, rfl, ha, rfl, _, rfl, b, _, 1, _, rfl, rfl, hb, rfl, _, _, rfl, rfl, mulW (Bq.den_abs sp) (Bq.den_abs sr) m0 n0 hmn, ?_⟩
    refine ⟨_, _, m + n, rfl, Bq.dens_pos p r, Bq.dens sp sr, hmn, fun x hx => ?_⟩
    have q' := q x hx
    rw [← Bq.q_mul] at q'
    exact q'
/-- the shares of a walk that was drawn -/
def spShares : Sp := fun vs H Q _ => ∃ (W : Addr → Prop) (v : V) (n : Nat) (M : List (List Nat)), vs = [v] ∧ Dq W H v (tabD (walkM M)) ∧ Wk n M ∧
  ∀ v' H', Same H H' → Dq (Old H) H' v' (rowD ((List.range n).map fun i => shQ n M i)) → Q v' H'
theorem ok_lshares {f : Addr} {fd : FuncData} (F : Fun K "_law_shares" "_law_shares" s_law_shares f fd) (M : Mb mg) (Dlaw_total : Df P w K mg base 3 "_law_total" ["parts"] (spSum K (SqL K))) (Dlaw_over : Df P w K mg base 2 "_law_over" ["here", "there"] (spOver K))
    (Dlaw_times : Df P w K mg base 2 "_law_times" ["here", "there"] (spTimes K)) (Dlaw_plus : Df P w K mg base 2 "_law_plus" ["here", "there"] (spPlus K)) (Dlaw_over_sum : Df P w K mg base 4 "_law_over_sum" ["row"] (spOverSum K)) :
    FnOk P w K mg base CX0 5 f fd ["going"] spShares := by
  refine F.ok c_law_shares (fun vs H Q E h => ?_) (fun cdv A outer s H vs Q E hr h => ?_)
  · obtain ⟨_, v, n, M, rfl, _⟩ := h
    rfl
  · obtain ⟨W, v, n, Mx, rfl, hd, wk, q⟩ := h
    refine ⟨_, (pss_cons (ps_asg (pe_tup (pa_cons (pe_callB call_len_seq (by rfl) M.len (by decide +kernel) (pa_cons (pv 0) pa_nil)) (pa_cons (pe_lc (own := [("row", 3)]) rfl c_law_shares.nd (pi_tup (pv 0)) (blkOk_by (own := [("row", 3)]) (N := n_law_shares) (sc := defScope s_law_shares) (by decide +kernel)) (fun _ _ _ _ _ => (pg_name (i := 3) c_law_shares.nd rfl (.inl rfl))) (fun _ _ _ _ _ => pts_nil) (fun _ _ _ _ _ => (pe_callTy (call_lstK (K := K) rfl) (by rfl) M.list (by decide +kernel) (pa_cons (pv 3) pa_nil)))) pa_nil))) (pg_tup rfl (pgs_cons (pg_name (i := 1) c_law_shares.nd rfl (.inl rfl)) (pgs_cons (pg_name (i := 2) c_law_shares.nd rfl (.inr rfl)) pgs_nil))))
 (pss_cons (ps_for PassesOwn.never rfl (pi_range3 (by rfl) M.range (pa_cons (pe_op op_sub (pv 1) pe_int) (pa_cons pe_int (pa_cons (pe_un un_neg pe_int) pa_nil)))) (pg_name (i := 4) c_law_shares.nd rfl (.inr rfl))
 (pss_cons (ps_set (i := 5) c_law_shares.nd rfl (.inl rfl) (pe_call Dlaw_total.G (hr.mono (by first | decide | omega)) rfl Dlaw_total.g Dlaw_total.kp Dlaw_total.b .nil pass0 (pa_cons (pe_slice sl_list (pe_ix ix_list (pv 2) (pv 4) (fun _ _ => rfl)) po_none (po_some (pv 4))) pa_nil)))
 (pss_one (ps_for PassesOwn.never rfl (pi_range1 (by rfl) M.range (pa_cons (pv 4) pa_nil)) (pg_name (i := 6) c_law_shares.nd rfl (.inl rfl))
 (pss_cons (ps_asg (pe_call Dlaw_over.G (hr.mono (by first | decide | omega)) rfl Dlaw_over.g Dlaw_over.kp Dlaw_over.b .nil pass0 (pa_cons (pe_ix ix_list (pe_ix ix_list (pv 2) (pv 6) (fun _ _ => rfl)) (pv 4) (fun _ _ => rfl)) (pa_cons (pv 5) pa_nil))) (pg_sub (pe_ix ix_list (pv 2) (pv 6) (fun _ _ => rfl)) (pv 4) set_list))
 (pss_one (ps_for PassesOwn.never rfl (pi_range1 (by rfl) M.range (pa_cons (pv 4) pa_nil)) (pg_name (i := 7) c_law_shares.nd rfl (.inl rfl))
 (pss_cons (ps_set (i := 8) c_law_shares.nd rfl (.inl rfl) (pe_call Dlaw_times.G (hr.mono (by first | decide | omega)) rfl Dlaw_times.g Dlaw_times.kp Dlaw_times.b .nil pass0 (pa_cons (pe_ix ix_list (pe_ix ix_list (pv 2) (pv 6) (fun _ _ => rfl)) (pv 4) (fun _ _ => rfl)) (pa_cons (pe_ix ix_list (pe_ix ix_list (pv 2) (pv 4) (fun _ _ => rfl)) (pv 7) (fun _ _ => rfl)) pa_nil))))
 (pss_one (ps_asg (pe_call Dlaw_plus.G (hr.mono (by first | decide | omega)) rfl Dlaw_plus.g Dlaw_plus.kp Dlaw_plus.b .nil pass0 (pa_cons (pe_ix ix_list (pe_ix ix_list (pv 2) (pv 6) (fun _ _ => rfl)) (pv 7) (fun _ _ => rfl)) (pa_cons (pv 8) pa_nil))) (pg_sub (pe_ix ix_list (pv 2) (pv 6) (fun _ _ => rfl)) (pv 7) set_list)))))))))))
 (pss_cons (ps_set (i := 9) c_law_shares.nd rfl (.inr rfl) (pe_lst (pa_cons (pe_tup (pa_cons pe_int (pa_cons pe_int pa_nil))) pa_nil)))
 (pss_cons (ps_for PassesOwn.never rfl (pi_range2 (by rfl) M.range (pa_cons pe_int (pa_cons (pv 1) pa_nil))) (pg_name (i := 4) c_law_shares.nd rfl (.inr rfl))
 (pss_one (ps_expr (pe_bm PySem.F.plainAttrs_list PySem.F.slot_list_append PySem.F.type_list_append mt_append (pv 9) (pa_cons (pe_call Dlaw_total.G (hr.mono (by first | decide | omega)) rfl Dlaw_total.g Dlaw_total.kp Dlaw_total.b .nil pass0 (pa_cons (pe_lc (own := [("at", 10)]) rfl c_law_shares.nd (pi_range1 (by rfl) M.range (pa_cons (pv 4) pa_nil)) (blkOk_by (own := [("at", 10)]) (N := n_law_shares) (sc := defScope s_law_shares) (by decide +kernel)) (fun _ _ _ _ _ => (pg_name (i := 10) c_law_shares.nd rfl (.inl rfl))) (fun _ _ _ _ _ => pts_nil) (fun _ _ _ _ _ => (pe_call Dlaw_times.G (hr.mono (by first | decide | omega)) rfl Dlaw_times.g Dlaw_times.kp Dlaw_times.b .nil pass0 (pa_cons (pe_ix (ix_listK (K := K) rfl) (pv 9) (pv 10) (fun _ _ => rfl)) (pa_cons (pe_ix (ix_listK (K := K) rfl) (pe_ix (ix_listK (K := K) rfl) (pv 2) (pv 10) (fun _ _ => rfl)) (pv 4) (fun _ _ => rfl)) pa_nil))))) pa_nil)) pa_nil)))))
 (pss_one (ps_ret (pe_call Dlaw_over_sum.G (hr.mono (by first | decide | omega)) rfl Dlaw_over_sum.g Dlaw_over_sum.kp Dlaw_over_sum.b .nil pass0 (pa_cons (pv 9) pa_nil)))))))), ?_⟩
    obtain ⟨a, xs, rfl, na, ea, el⟩ := hd.tupI
    have wl := wk.len
    have n1 := wk.n1
    have n6 := wk.n6
    have xl : xs.length = n := by
      have := el.length
      rw [List.length_map] at this
      omega
    have rowAt : ∀ (i : Nat) x, xs[i]? = some x → i < n ∧ Dq W H x (rowD ((List.range n).map fun j => chQ n (mf Mx) i j)) := fun i x e => by
      have hi : i < n := by
        have := (List.getElem?_eq_some_iff.mp e).1
        omega
      obtain ⟨d, hd2, dx⟩ := el.at e
      rw [List.getElem?_map, wk.row hi] at hd2
      rw [← Option.some.inj hd2] at dx
      exact ⟨hi, dx⟩
    refine ⟨_, rfl, a, xs, rfl, .inr (.of ea), ?_⟩
    -- rows
    refine ⟨_, rfl, a, rfl, ⟨xs, .of ea⟩, fun D nD => lc_it (walk_tup (K := K) (a := a) (xs := xs)) (fun i H' => Same H H' ∧ ∃ rs : List Addr, H' D = some (.lst (rs.map V.ref)) ∧ rs.length = i ∧ (∀ (i j : Nat) r, rs[i]? = some r → rs[j]? = some r → i = j) ∧
        ∀ (k : Nat) r, rs[k]? = some r → H r = none ∧ r ≠ D ∧ ∃ ys, H' r = some (.lst ys) ∧ ys.length = n ∧ ∀ (j : Nat) v, ys[j]? = some v → FrA H' v (chQ n (mf Mx) k j))
      ⟨same_new nD, [], upd_same, rfl, fun i j r e => by simp at e, fun k r e => by simp at e⟩ (fun i H' _ p => .of (p.1 _ _ ea)) ?_ ?_⟩
    · rintro i x _ H1 hi ⟨s1, rs, eD, hl, nd, hrs⟩ ⟨rfl, hx⟩
      refine ⟨rfl, ?_⟩
      unfold tYes
      refine ifT rfl ?_
      obtain ⟨hin, dx⟩ := rowAt i x hx
      obtain ⟨b, ys, rfl, nb, eb, er⟩ := (dx.keep (Kp.same s1)).tupI
      have yl : ys.length = n := by
        have := er.length
        simpa using this
      refine ⟨_, rfl, b, ys, rfl, .inr (.of eb), fun l nl => ?_⟩
      have s2 : Same H1 (upd H1 l (.lst ys)) := same_new nl
      have lD : l ≠ D := Ne.symm (ne_of_none eD nl)
      have el2 : (upd H1 l (.lst ys)) l = some (.lst ys) := upd_same
      have l0 : H l = none := s1.free nl
      have fy : ∀ (j : Nat) v, ys[j]? = some v → FrA (upd H1 l (.lst ys)) v (chQ n (mf Mx) i j) := fun j v e => by
        obtain ⟨d, hd3, dv⟩ := er.at e
        have hj : j < n := by
          have := (List.getElem?_eq_some_iff.mp e).1
          omega
        rw [List.getElem?_map, List.getElem?_map, List.getElem?_range hj] at hd3
        rw [← Option.some.inj hd3] at dv
        exact (dq_frA dv).same s2
      have nin : ∀ (c : Nat), rs[c]? ≠ some l := fun c ec => by
        obtain ⟨_, _, zs, h3, _⟩ := hrs c l ec
        rw [nl] at h3
        cases h3
      generalize upd H1 l (.lst ys) = H2 at s2 el2 fy
      have eD2 := s2 _ _ eD
      have nt : ∀ xs, H2 D ≠ some (.tup xs) := fun xs => by
        rw [eD2]
        exact fun z => nomatch z
      refine ⟨_, eD2, by rw [List.length_map]; exact sz63' (by omega), same_mut (s1.trans s2) nD, rs ++ [l], by rw [upd_same, List.map_append]; rfl, by rw [List.length_append, hl]; rfl, fun a b x ea eb => ?_, fun k r e => ?_⟩
      · have la := (List.getElem?_eq_some_iff.mp ea).1
        have lb := (List.getElem?_eq_some_iff.mp eb).1
        rw [List.length_append, List.length_singleton] at la lb
        by_cases ca : a < rs.length
        · rw [List.getElem?_append_left ca] at ea
          by_cases cb : b < rs.length
          · rw [List.getElem?_append_left cb] at eb
            exact nd a b x ea eb
          · rw [List.getElem?_append_right (by omega), show b - rs.length = 0 by omega] at eb
            have : l = x := by simpa using eb
            rw [← this] at ea
            exact absurd ea (nin a)
        · rw [List.getElem?_append_right (by omega), show a - rs.length = 0 by omega] at ea
          have hx : l = x := by simpa using ea
          by_cases cb : b < rs.length
          · rw [List.getElem?_append_left cb, ← hx] at eb
            exact absurd eb (nin b)
          · omega
      · have lk := (List.getElem?_eq_some_iff.mp e).1
        rw [List.length_append, List.length_singleton] at lk
        by_cases ck : k < rs.length
        · rw [List.getElem?_append_left ck] at e
          obtain ⟨g1, g2, zs, g3, g4, g5⟩ := hrs k r e
          exact ⟨g1, g2, zs, by rw [upd_ne g2]; exact s2 _ _ g3, g4, fun j v ev => ((g5 j v ev).same s2).frame nt⟩
        · rw [List.getElem?_append_right (by omega), show k - rs.length = 0 by omega] at e
          have hx : l = r := by simpa using e
          subst hx
          have hk : k = i := by omega
          rw [hk]
          exact ⟨l0, lD, ys, by rw [upd_ne lD]; exact el2, yl, fun j v ev => (fy j v ev).frame nt⟩
    rintro H1 ⟨s1, rs, eD, hl, nd, hrs⟩
    have m1 : MatH H H1 D rs n (chQ n (mf Mx)) := ⟨s1, eD, by omega, nd, fun i r e => (hrs i r e).2.2, nD, fun r hr => by
      obtain ⟨k, hk⟩ := List.mem_iff_getElem?.mp hr
      exact ⟨(hrs k r hk).1, (hrs k r hk).2.1⟩⟩
    clear hrs nd eD hl s1
    refine ⟨sz63 (by show 2 ≤ 1000; decide), fun p np => ⟨p, _, rfl, .of upd_same, rfl, _, _, rfl, _, _, rfl, rfl, ?_⟩⟩
    have m2 := m1.grow (same_new (o := .tup [.int (xs.length : Nat), .ref D]) np)
    subst xl
    generalize upd H1 p (.tup [.int (xs.length : Nat), .ref D]) = H2 at m2 ⊢
    clear m1 np H1 p rowAt hd el
    generalize hn : xs.length = n at *
    -- places left out
    refine ⟨_, rfl, _, _, rfl, rfl, _, rfl, _, _, _, _, rfl, RgC.neg (by omega) (by omega) (by omega) (by omega), ?_⟩
    have et : ((n : Int) - 1 - 0).toNat = n - 1 := by omega
    rw [et]
    refine for_rangeC (lo := (n : Int) - 1) (c := -1) (n := n - 1) (fun t σ H' => ∃ R y4 y5 y6 y7 y8 y9 y10, σ = [some (.ref a), some (.int (n : Nat)), some (.ref D), none, y4, y5, y6, y7, y8, y9, y10] ∧ MatH H H' D rs n R ∧ Tell n (mf Mx) (n - 1 - t) 0 0 R)
      ⟨_, _, _, _, _, _, _, _, rfl, m2, Tell.start n1 fun _ _ _ _ => rfl⟩ ?_ ?_
    · rintro t σ H3 ht ⟨R, y4, y5, y6, y7, y8, y9, y10, rfl, m3, T3⟩
      obtain ⟨l, rfl⟩ : ∃ l, t = n - 1 - l := ⟨n - 1 - t, by omega⟩
      have hl1 : 1 ≤ n - 1 - (n - 1 - l) := by omega
      have hln : n - 1 - (n - 1 - l) < n := by omega
      have enx : n - 1 - (n - 1 - l + 1) = n - 1 - (n - 1 - l) - 1 := by omega
      have ei : ((n : Int) - 1) + ((n - 1 - l : Nat) : Int) * -1 = ((n - 1 - (n - 1 - l) : Nat) : Int) := by omega
      rw [ei]
      generalize n - 1 - (n - 1 - l) = l at *
      have st := wk.st2 hln
      -- goes
      obtain ⟨r, xr, er, exr, xrl, xra⟩ := m3.at hln
      refine ⟨_, rfl, _, rfl, D, _, (l : Int), .ref r, rfl, rfl, .of m3.eD, atI_nat (by rw [List.getElem?_map, er]; rfl), ?_⟩
      refine ⟨_, rfl, _, rfl, r, xr, rfl, .of exr, fun c nc => ?_⟩
      rw [cut_to (by omega)]
      have m4 := m3.grow (same_new (o := .lst (xr.take l)) nc)
      refine ⟨c, xr.take l, (List.range l).map (fun j => chQ (l + 1) (stg n (mf Mx) (n - 1 - l)) l j), 383, rfl, .of upd_same, ⟨by rw [List.length_take, List.length_map, List.length_range]; omega, fun j v q e1 e2 => ?_⟩, fun q hq => ?_, ?_, fun vg H5 s5 dg => ?_⟩
      · have hj : j < l := by
          have := (List.getElem?_eq_some_iff.mp e1).1
          rw [List.length_take] at this
          omega
        rw [List.getElem?_take, if_pos hj] at e1
        rw [List.getElem?_map, List.getElem?_range hj] at e2
        rw [← Option.some.inj e2]
        have z := T3 l j hln (by omega) (by omega) (fun _ => Nat.le_refl _)
        unfold vF at z
        rw [if_neg (by omega), if_neg (by unfold dnN; omega)] at z
        show FrR K _ v (chQ (l + 1) (stg n (mf Mx) (n - 1 - l)) l j)
        rw [← z]
        exact ((xra j v e1).same (same_new nc)).fr
      · obtain ⟨j, hj, rfl⟩ := List.mem_map.mp hq
        exact wk.ch_sz2 hl1 hln (Nat.le_refl _) (Nat.le_of_lt (List.mem_range.mp hj))
      · rw [List.length_map, List.length_range]
        omega
      · rw [goes_eq] at dg
        have fg : FrA H5 vg (goQ n Mx l) := dq_frA dg
        have m5 := m4.grow s5
        have T5 := T3
        clear dg s5 m4 nc exr xra er T3
        refine ⟨_, rfl, _, rfl, by omega, by omega, ?_⟩
        refine for_range (lo := 0) (n := l) (fun h σ H' => ∃ R y6 y7 y8 y9 y10, σ = [some (.ref a), some (.int (n : Nat)), some (.ref D), none, some (.int (l : Nat)), some vg, y6, y7, y8, y9, y10] ∧ MatH H H' D rs n R ∧ Tell n (mf Mx) l h 0 R ∧ FrA H' vg (goQ n Mx l))
          ⟨_, _, _, _, _, _, rfl, m5, T5, fg⟩ ?_ ?_
        · clear m5 T5 fg
          rintro h σ H6 hh ⟨R, y6, y7, y8, y9, y10, rfl, m6, T6, fg⟩
          have e0 : (0 : Int) + ((h : Nat) : Int) = ((h : Nat) : Int) := by omega
          rw [e0]
          -- what goes to the last place
          obtain ⟨r, xr, er, exr, xrl, xra⟩ := m6.at (show h < n by omega)
          have ev : xr[l]? = some (xr[l]'(by omega)) := List.getElem?_eq_getElem (by omega)
          have fv := xra l _ ev
          generalize xr[l]'(by omega) = v at ev fv
          have eR : R h l = chQ (l + 1) (stg n (mf Mx) (n - 1 - l)) h l := by
            have z := T6 h l (by omega) hln (by omega) (by omega)
            unfold vF at z
            rw [if_neg (by omega), if_neg (by unfold dnN; omega)] at z
            exact z
          rw [eR] at fv
          have eb : bkQ l (stg n (mf Mx) (n - 1 - l)) h = chQ (l + 1) (stg n (mf Mx) (n - 1 - l)) h l / goQ n Mx l := rfl
          refine ⟨_, rfl, _, rfl, D, _, (h : Int), .ref r, rfl, rfl, .of m6.eD, atI_nat (by rw [List.getElem?_map, er]; rfl), _, rfl, r, xr, (l : Int), v, rfl, rfl, .of exr, atI_nat ev, _, rfl, ?_⟩
          refine ⟨v, vg, _, _, 383, 383, rfl, fv.fr, fg.fr, wk.ch_sz2 hl1 hln (by omega) (Nat.le_refl _), wk.go_sz hl1 hln, by omega, wk.go_pos hl1 hln, fun b nb => ?_⟩
          rw [← eb]
          have m7 := m6.grow (same_new (o := .tup [.int (bkQ l (stg n (mf Mx) (n - 1 - l)) h).num, .int (bkQ l (stg n (mf Mx) (n - 1 - l)) h).den]) nb)
          have fb : FrA (upd H6 b (.tup [.int (bkQ l (stg n (mf Mx) (n - 1 - l)) h).num, .int (bkQ l (stg n (mf Mx) (n - 1 - l)) h).den])) (.ref b) (bkQ l (stg n (mf Mx) (n - 1 - l)) h) := ⟨b, rfl, upd_same⟩
          have fg7 := fg.same (same_new (o := .tup [.int (bkQ l (stg n (mf Mx) (n - 1 - l)) h).num, .int (bkQ l (stg n (mf Mx) (n - 1 - l)) h).den]) nb)
          have exr7 := same_new (o := .tup [.int (bkQ l (stg n (mf Mx) (n - 1 - l)) h).num, .int (bkQ l (stg n (mf Mx) (n - 1 - l)) h).den]) nb _ _ exr
          generalize upd H6 b (.tup [.int (bkQ l (stg n (mf Mx) (n - 1 - l)) h).num, .int (bkQ l (stg n (mf Mx) (n - 1 - l)) h).den]) = H7 at m7 fb fg7 exr7
          refine ⟨_, rfl, _, rfl, D, _, (h : Int), .ref r, rfl, rfl, .of m7.eD, atI_nat (by rw [List.getElem?_map, er]; rfl), _, rfl, r, xr, (l : Int), l, rfl, rfl, exr7, ixNat (by omega), ?_⟩
          have nt : ∀ xs, H7 r ≠ some (.tup xs) := fun xs => by
            rw [exr7]
            exact fun z => nomatch z
          have m8 := m7.set (b := l) er exr7 fb
          have fg8 := fg7.frame (o := .lst (xr.set l (.ref b))) nt
          have T8 : Tell n (mf Mx) l h (0 + 1) _ := T6.set (b := l) (Nat.le_refl _) (by unfold kyN; rw [if_pos rfl]) (q := bkQ l (stg n (mf Mx) (n - 1 - l)) h) (by
            unfold vF
            rw [if_neg (by omega), if_pos (.inr ⟨rfl, by unfold kyN; rw [if_pos rfl]; omega⟩), if_pos rfl])
          generalize upd H7 r (.lst (xr.set l (.ref b))) = H8 at m8 fg8
          clear m7 fg7 exr7 fb nt exr xra er fv ev eR T6 m6 fg
          -- the row
          refine ⟨_, rfl, _, rfl, by omega, by omega, ?_⟩
          refine for_range (lo := 0) (n := l) (fun u σ H' => ∃ R y7 y8 y9 y10, σ = [some (.ref a), some (.int (n : Nat)), some (.ref D), none, some (.int (l : Nat)), some vg, some (.int (h : Nat)), y7, y8, y9, y10] ∧ MatH H H' D rs n R ∧ Tell n (mf Mx) l h (u + 1) R ∧ FrA H' vg (goQ n Mx l))
            ⟨_, _, _, _, _, rfl, m8, T8, fg8⟩ ?_ ?_
          · clear m8 T8 fg8
            rintro u σ H9 hu ⟨R, y7, y8, y9, y10, rfl, m9, T9, fg⟩
            have e0 : (0 : Int) + ((u : Nat) : Int) = ((u : Nat) : Int) := by omega
            rw [e0]
            obtain ⟨r, xr, er, exr, xrl, xra⟩ := m9.at (show h < n by omega)
            obtain ⟨rl, xl, erl, exl, xll, xla⟩ := m9.at hln
            have ev : xr[l]? = some (xr[l]'(by omega)) := List.getElem?_eq_getElem (by omega)
            have ev2 : xl[u]? = some (xl[u]'(by omega)) := List.getElem?_eq_getElem (by omega)
            have ev3 : xr[u]? = some (xr[u]'(by omega)) := List.getElem?_eq_getElem (by omega)
            have fv := xra l _ ev
            have fv2 := xla u _ ev2
            have fv3 := xra u _ ev3
            generalize xr[l]'(by omega) = v at ev fv
            generalize xl[u]'(by omega) = v2 at ev2 fv2
            generalize xr[u]'(by omega) = v3 at ev3 fv3
            have k0 : kyN l l = 0 := by
              unfold kyN
              exact if_pos rfl
            have ku : kyN l u = u + 1 := by
              unfold kyN
              exact if_neg (by omega)
            have eR1 : R h l = bkQ l (stg n (mf Mx) (n - 1 - l)) h := by
              have z := T9 h l (by omega) hln (by omega) (by omega)
              unfold vF at z
              rw [if_neg (by omega), if_pos (.inr ⟨rfl, by omega⟩), if_pos rfl] at z
              exact z
            have eR2 : R l u = chQ (l + 1) (stg n (mf Mx) (n - 1 - l)) l u := by
              have z := T9 l u hln (by omega) (by omega) (by omega)
              unfold vF at z
              rw [if_neg (by omega), if_neg (by unfold dnN; omega)] at z
              exact z
            have eR3 : R h u = chQ (l + 1) (stg n (mf Mx) (n - 1 - l)) h u := by
              have z := T9 h u (by omega) (by omega) (by omega) (by omega)
              unfold vF at z
              rw [if_neg (by omega), if_neg (by unfold dnN; omega)] at z
              exact z
            rw [eR1] at fv
            rw [eR2] at fv2
            rw [eR3] at fv3
            refine ⟨_, rfl, _, rfl, D, _, (h : Int), .ref r, rfl, rfl, .of m9.eD, atI_nat (by rw [List.getElem?_map, er]; rfl), _, rfl, r, xr, (l : Int), v, rfl, rfl, .of exr, atI_nat ev, ?_⟩
            refine ⟨_, rfl, _, rfl, D, _, (l : Int), .ref rl, rfl, rfl, .of m9.eD, atI_nat (by rw [List.getElem?_map, erl]; rfl), _, rfl, rl, xl, (u : Int), v2, rfl, rfl, .of exl, atI_nat ev2, ?_⟩
            have z1 := wk.bk_sz hl1 hln hh
            have z2 := wk.ch_sz2 hl1 hln (i := l) (j := u) (Nat.le_refl _) (by omega)
            have z3 := wk.ch_sz2 hl1 hln (i := h) (j := u) (by omega) (by omega)
            refine ⟨v, v2, _, _, 770, 383, rfl, fv.fr, fv2.fr, z1, z2, by omega, fun b nb => ?_⟩
            have hz := z1.mul z2
            have es := step_eq (j := u) st hl1 hh
            generalize bkQ l (stg n (mf Mx) (n - 1 - l)) h * chQ (l + 1) (stg n (mf Mx) (n - 1 - l)) l u = g at hz es ⊢
            have s1 : Same H9 (upd H9 b (.tup [.int g.num, .int g.den])) := same_new nb
            have m10 := m9.grow s1
            have fgn : FrA (upd H9 b (.tup [.int g.num, .int g.den])) (.ref b) g := ⟨b, rfl, upd_same⟩
            have fg10 := fg.same s1
            have fv4 := fv3.same s1
            have exr10 := s1 _ _ exr
            generalize upd H9 b (.tup [.int g.num, .int g.den]) = H10 at m10 fgn fg10 fv4 exr10 ⊢
            refine ⟨_, rfl, _, rfl, D, _, (h : Int), .ref r, rfl, rfl, .of m10.eD, atI_nat (by rw [List.getElem?_map, er]; rfl), _, rfl, r, xr, (u : Int), v3, rfl, rfl, .of exr10, atI_nat ev3, _, rfl, ?_⟩
            refine ⟨v3, .ref b, _, _, 383, 1153, rfl, fv4.fr, fgn.fr, z3, hz, by omega, fun b2 nb2 => ?_⟩
            rw [es]
            generalize hcc : chQ l (el (stg n (mf Mx) (n - 1 - l)) l) h u = cc at es ⊢
            have s2 : Same H10 (upd H10 b2 (.tup [.int cc.num, .int cc.den])) := same_new nb2
            have m11 := m10.grow s2
            have fc : FrA (upd H10 b2 (.tup [.int cc.num, .int cc.den])) (.ref b2) cc := ⟨b2, rfl, upd_same⟩
            have fg11 := fg10.same s2
            have exr11 := s2 _ _ exr10
            generalize upd H10 b2 (.tup [.int cc.num, .int cc.den]) = H11 at m11 fc fg11 exr11 ⊢
            refine ⟨_, rfl, _, rfl, D, _, (h : Int), .ref r, rfl, rfl, .of m11.eD, atI_nat (by rw [List.getElem?_map, er]; rfl), _, rfl, r, xr, (u : Int), u, rfl, rfl, exr11, ixNat (by omega), ?_⟩
            have nt : ∀ xs, H11 r ≠ some (.tup xs) := fun xs => by
              rw [exr11]
              exact fun z => nomatch z
            refine ⟨_, _, _, _, _, rfl, m11.set (b := u) er exr11 fc, T9.set (b := u) (by omega) ku ?_, fg11.frame nt⟩
            unfold vF
            rw [if_neg (by omega), if_pos (.inr ⟨rfl, by omega⟩), if_neg (by omega), hcc]
          · rintro σ H9 ⟨R, y7, y8, y9, y10, rfl, m9, T9, fg⟩
            exact ⟨R, _, _, _, _, _, rfl, m9, T9.next, fg⟩
        · rintro σ H6 ⟨R, y6, y7, y8, y9, y10, rfl, m6, T6, fg⟩
          refine ⟨R, _, _, _, _, _, _, _, rfl, m6, ?_⟩
          rw [enx]
          obtain ⟨k, rfl⟩ : ∃ k, l = k + 1 := ⟨l - 1, by omega⟩
          exact T6.down hln
    · rintro σ H3 ⟨R, y4, y5, y6, y7, y8, y9, y10, rfl, m3, T3⟩
      have en0 : n - 1 - (n - 1) = 0 := by omega
      rw [en0] at T3
      have eR : ∀ i j, j < n → i < j → R i j = bkQ j (stg n (mf Mx) (n - 1 - j)) i := fun i j hj hi => by
        have z := T3 i j (by omega) hj (fun _ => hi) (by omega)
        unfold vF at z
        rw [if_pos (by omega)] at z
        exact z
      clear T3 m2
      -- found
      refine ⟨sz63 (by show 2 ≤ 1000; decide), fun b nb => ⟨sz63 (by show 1 ≤ 1000; decide), fun F0 nF => ?_⟩⟩
      have m4 := (m3.grow (same_new (o := .tup [.int 1, .int 1]) nb)).grow (same_new (o := .lst [.ref b]) nF)
      have F00 : H F0 = none := m3.s.free ((same_new nb).free nF)
      have FD : F0 ≠ D := fun z => by
        have := (m3.grow (same_new (o := .tup [.int 1, .int 1]) nb)).eD
        rw [← z, nF] at this
        cases this
      have Frs : F0 ∉ rs := fun z => by
        obtain ⟨i, hi⟩ := List.mem_iff_getElem?.mp z
        obtain ⟨ys, e1, _⟩ := (m3.grow (same_new (o := .tup [.int 1, .int 1]) nb)).row i F0 hi
        rw [nF] at e1
        cases e1
      have p00 := fQ_ne (wk.pN_pos (i := 0) (by omega))
      have eF : (upd (upd H3 b (.tup [.int 1, .int 1])) F0 (.lst [.ref b])) F0 = some (.lst [.ref b]) := upd_same
      have f0 : ∀ (i : Nat) v, ([.ref b] : List V)[i]? = some v → FrA (upd (upd H3 b (.tup [.int 1, .int 1])) F0 (.lst [.ref b])) v (fQ (pN n (mf Mx) i) / fQ (pN n (mf Mx) 0)) := fun i v e => by
        have hi := (List.getElem?_eq_some_iff.mp e).1
        have i0 : i = 0 := by
          have : i < 1 := hi
          omega
        subst i0
        have : V.ref b = v := by simpa using e
        subst this
        have e1 : fQ (pN n (mf Mx) 0) / fQ (pN n (mf Mx) 0) = 1 := by grind
        rw [e1]
        exact ⟨b, rfl, same_new nF _ _ upd_same⟩
      generalize upd (upd H3 b (.tup [.int 1, .int 1])) F0 (.lst [.ref b]) = H4 at m4 eF f0 ⊢
      clear m3 nF nb H3
      refine ⟨_, rfl, 1, _, rfl, ⟨by omega, by omega, by omega, by omega⟩, ?_⟩
      have et2 : ((n : Int) - 1).toNat = n - 1 := by omega
      rw [et2]
      refine for_range (lo := 1) (n := n - 1) (fun k σ H' => ∃ fs y4 y5 y6 y7 y8 y10, σ = [some (.ref a), some (.int (n : Nat)), some (.ref D), none, y4, y5, y6, y7, y8, some (.ref F0), y10] ∧ MatH H H' D rs n R ∧ H' F0 = some (.lst fs) ∧ fs.length = k + 1 ∧
          ∀ (i : Nat) v, fs[i]? = some v → FrA H' v (fQ (pN n (mf Mx) i) / fQ (pN n (mf Mx) 0)))
        ⟨[.ref b], _, _, _, _, _, _, rfl, m4, eF, rfl, f0⟩ ?_ ?_
      · clear m4 eF f0
        rintro k σ H5 hk ⟨fs, y4, y5, y6, y7, y8, y10, rfl, m5, eF, fl, ff⟩
        have e0 : (1 : Int) + ((k : Nat) : Int) = ((k + 1 : Nat) : Int) := by omega
        rw [e0]
        have hl1 : 1 ≤ k + 1 := by omega
        have hln : k + 1 < n := by omega
        generalize hkl : k + 1 = l at *
        have st := wk.st2 hln
        refine ⟨_, rfl, .inl ⟨rfl, _, .of eF⟩, ?_⟩
        refine ⟨_, rfl, _, rfl, by omega, by omega, fun D2 nD2 => lc_rel (walk_range (lo := 0) (n := l)) No (fun H' i y => ∃ p, y = .ref p ∧ p ≠ D2 ∧ H' p = some (.tup [.int (fQ (pN n (mf Mx) i) / fQ (pN n (mf Mx) 0) * R i l).num, .int (fQ (pN n (mf Mx) i) / fQ (pN n (mf Mx) 0) * R i l).den]))
          (fun H H' i v k r => ?_) nD2 (fun _ z => z.elim) (by omega) (fun _ _ => trivial) ?_ ?_⟩
        · obtain ⟨p, rfl, ne, e⟩ := r
          exact ⟨p, rfl, ne, k _ _ (fun z => z.elim id ne) e⟩
        · rintro i x _ H6 Q' hi k6 nD6 ⟨rfl, rfl⟩ q'
          have e0 : (0 : Int) + ((i : Nat) : Int) = ((i : Nat) : Int) := by omega
          dsimp only
          rw [e0]
          have s6 := no_same k6
          have m6 := m5.grow s6
          obtain ⟨r, xr, er, exr, xrl, xra⟩ := m6.at (show i < n by omega)
          have ev : xr[l]? = some (xr[l]'(by omega)) := List.getElem?_eq_getElem (by omega)
          have fv := xra l _ ev
          have ew : fs[i]? = some (fs[i]'(by omega)) := List.getElem?_eq_getElem (by omega)
          have fw := (ff i _ ew).same s6
          have z1 := wk.bk_sz hl1 hln hi
          rw [← eR i l hln hi] at z1
          refine ⟨rfl, _, rfl, _, rfl, F0, fs, (i : Int), _, rfl, rfl, .of (s6 _ _ eF), atI_nat ew, ?_⟩
          refine ⟨_, rfl, _, rfl, D, _, (i : Int), .ref r, rfl, rfl, .of m6.eD, atI_nat (by rw [List.getElem?_map, er]; rfl), _, rfl, r, xr, (l : Int), _, rfl, rfl, .of exr, atI_nat ev, ?_⟩
          refine ⟨_, _, _, _, 770, 770, rfl, fw.fr, fv.fr, wk.found_sz (by omega), z1, by omega, fun b nb => ?_⟩
          refine q' _ _ (Kp.new nb) ⟨b, rfl, fun z => ?_, upd_same⟩
          rw [z] at nb
          exact nD6 nb
        · rintro H6 acc k6 eD6 hla ha
          have s6 := no_same k6
          refine ⟨D2, acc, (List.range l).map (fun i => fQ (pN n (mf Mx) i) / fQ (pN n (mf Mx) 0) * R i l), 1540, rfl, .of eD6, ⟨by rw [hla, List.length_map, List.length_range], fun i v q e1 e2 => ?_⟩, fun q hq => ?_, ?_, fun vt H7 s7 dt => ?_⟩
          · have hi : i < l := by
              have := (List.getElem?_eq_some_iff.mp e1).1
              omega
            rw [List.getElem?_map, List.getElem?_range hi] at e2
            rw [← Option.some.inj e2]
            obtain ⟨p, rfl, _, e⟩ := ha i v e1
            exact ⟨p, rfl, .of e⟩
          · obtain ⟨i, hi, rfl⟩ := List.mem_map.mp hq
            have hi' := List.mem_range.mp hi
            have z1 := wk.bk_sz hl1 hln hi'
            rw [← eR i l hln hi'] at z1
            exact (wk.found_sz (i := i) (by omega)).mul z1
          · rw [List.length_map, List.length_range]
            have : l * (1540 + 1) ≤ 5 * (1540 + 1) := Nat.mul_le_mul_right _ (by omega)
            omega
          · have e3 : ((List.range l).map fun i => fQ (pN n (mf Mx) i) / fQ (pN n (mf Mx) 0) * R i l) = (List.range l).map fun i => fQ (pN (l + 1) (stg n (mf Mx) (n - 1 - l)) i) / fQ (pN n (mf Mx) 0) * bkQ l (stg n (mf Mx) (n - 1 - l)) i := by
              refine List.map_congr_left fun i hi => ?_
              have hi' := List.mem_range.mp hi
              have z := pN_stg (n := n) (M := mf Mx) (n - 1 - l) (by omega) i (by omega)
              have e : n - (n - 1 - l) = l + 1 := by omega
              rw [e] at z
              rw [z, eR i l hln hi']
            have z := pN_stg (n := n) (M := mf Mx) (n - 1 - l) (by omega) l (by omega)
            have e : n - (n - 1 - l) = l + 1 := by omega
            rw [e] at z
            rw [e3, found_eq st hl1, z] at dt
            have s57 := s6.trans s7
            have eF7 := s57 _ _ eF
            have nt : ∀ xs, H7 F0 ≠ some (.tup xs) := fun xs => by
              rw [eF7]
              exact fun z => nomatch z
            refine ⟨F0, _, _, rfl, rfl, eF7, by exact sz63' (by omega), ?_⟩
            refine ⟨fs ++ [vt], _, _, _, _, _, _, rfl, (m5.grow s57).other nt F00 FD Frs, upd_same, by rw [List.length_append, fl]; rfl, fun i v e => ?_⟩
            have hi := (List.getElem?_eq_some_iff.mp e).1
            rw [List.length_append, List.length_singleton] at hi
            by_cases c : i < fs.length
            · rw [List.getElem?_append_left c] at e
              exact ((ff i v e).same s57).frame nt
            · rw [List.getElem?_append_right (by omega), show i - fs.length = 0 by omega] at e
              have hv : vt = v := by simpa using e
              subst hv
              have ei : i = l := by omega
              rw [ei]
              exact (dq_frA dt).frame nt
      · rintro σ H5 ⟨fs, y4, y5, y6, y7, y8, y10, rfl, m5, eF, fl, ff⟩
        have fl2 : fs.length = n := by omega
        have a0 := wk.all_pos
        have e4 : Bq.sumQ ((List.range n).map fun i => fQ (pN n (mf Mx) i) / fQ (pN n (mf Mx) 0)) = fQ (allN n Mx) / fQ (pN n (mf Mx) 0) := sumQ_div _ _ _
        refine ⟨_, rfl, F0, fs, (List.range n).map (fun i => fQ (pN n (mf Mx) i) / fQ (pN n (mf Mx) 0)), 770, rfl, .of eF, ⟨by rw [fl2, List.length_map, List.length_range], fun i v q e1 e2 => ?_⟩, fun q hq => ?_, ?_, ?_, ?_, fun v H6 s6 dv => ?_⟩
        · have hi : i < n := by
            have := (List.getElem?_eq_some_iff.mp e1).1
            omega
          rw [List.getElem?_map, List.getElem?_range hi] at e2
          rw [← Option.some.inj e2]
          exact (ff i v e1).fr
        · obtain ⟨i, hi, rfl⟩ := List.mem_map.mp hq
          exact wk.found_sz (List.mem_range.mp hi)
        · rw [List.length_map, List.length_range]
          omega
        · rw [List.length_map, List.length_range]
          have : n * (770 + 1) ≤ 6 * (770 + 1) := Nat.mul_le_mul_right _ n6
          omega
        · rw [e4]
          exact div_pos (fQ_pos a0) (fQ_pos (wk.pN_pos (by omega)))
        · rw [e4, List.map_map] at dv
          have e5 : ((List.range n).map ((fun q => q / (fQ (allN n Mx) / fQ (pN n (mf Mx) 0))) ∘ fun i => fQ (pN n (mf Mx) i) / fQ (pN n (mf Mx) 0))) = (List.range n).map fun i => shQ n Mx i := by
            refine List.map_congr_left fun i hi => ?_
            have a1 := fQ_ne a0
            show fQ (pN n (mf Mx) i) / fQ (pN n (mf Mx) 0) / (fQ (allN n Mx) / fQ (pN n (mf Mx) 0)) = fQ (pN n (mf Mx) i) / fQ (allN n Mx)
            generalize fQ (allN n Mx) = A0 at *
            generalize fQ (pN n (mf Mx) 0) = B0 at *
            grind
          rw [e5] at dv
          refine q v H6 (m5.s.trans s6) (dv.weak fun b z => ?_)
          exact fun e => z (m5.s.free e)
end
end Kx
set_option exponentiation.threshold 4000
/-! The law's own flows, the walk backwards. -/
namespace Kx
open PySem PySem.Spec PyProof.Rows L2 Bw
abbrev s_law_flows : Stmt := topS 44
abbrev n_law_flows : List Str := ["going", "rest", "at", "row", "part"]
theorem c_law_flows : FnScope n_law_flows ["going"] (defScope s_law_flows) :=
  ⟨rfl, rfl, rfl, by decide +kernel, rfl, by decide +kernel, by decide +kernel⟩

abbrev s_law_backward : Stmt := topS 45
abbrev n_law_backward : List Str := ["going", "flows", "at", "row"]
theorem c_law_backward : FnScope n_law_backward ["going"] (defScope s_law_backward) :=
  ⟨rfl, rfl, rfl, by decide +kernel, rfl, by decide +kernel, by decide +kernel⟩

def flQ (n : Nat) (M : List (List Nat)) (i j : Nat) : Rat := fQ (flN n M i j) / fQ (allN n M)
def flT (n : Nat) (M : List (List Nat)) : List (List Rat) := (List.range n).map fun i => (List.range n).map fun j => flQ n M i j
section
variable {P : Program} {w : World} {K : PySem.W.Frag} {mg : Str → Option Value} {base : Heap}
theorem row_at {W : Addr → Prop} {H : Hp} {xs : List V} {n : Nat} {f : Nat → Rat} (h : DqAll W H xs (((List.range n).map f).map frD)) {i : Nat} {v : V} (e : xs[i]? = some v) : i < n ∧ Dq W H v (frD (f i)) := by
  have hl := h.length
  rw [List.length_map, List.length_map, List.length_range] at hl
  have hi : i < n := by
    have := (List.getElem?_eq_some_iff.mp e).1
    omega
  obtain ⟨d, hd, dv⟩ := h.at e
  rw [List.getElem?_map, List.getElem?_map, List.getElem?_range hi] at hd
  rw [← Option.some.inj hd] at dv
  exact ⟨hi, dv⟩
theorem tab_at {W : Addr → Prop} {H : Hp} {xs : List V} {n : Nat} {f : Nat → List Rat} (h : DqAll W H xs (((List.range n).map f).map rowD)) {i : Nat} {v : V} (e : xs[i]? = some v) : i < n ∧ Dq W H v (rowD (f i)) := by
  have hl := h.length
  rw [List.length_map, List.length_map, List.length_range] at hl
  have hi : i < n := by
    have := (List.getElem?_eq_some_iff.mp e).1
    omega
  obtain ⟨d, hd, dv⟩ := h.at e
  rw [List.getElem?_map, List.getElem?_map, List.getElem?_range hi] at hd
  rw [← Option.some.inj hd] at dv
  exact ⟨hi, dv⟩
theorem _root_.Bw.Wk.tab {n : Nat} {M : List (List Nat)} (h : Wk n M) : walkM M = (List.range n).map fun i => (List.range n).map fun j => chQ n (mf M) i j := by
  refine List.ext_getElem? fun i => ?_
  by_cases hi : i < n
  · rw [h.row hi, List.getElem?_map, List.getElem?_range hi]
    rfl
  · rw [List.getElem?_eq_none (by rw [h.len]; omega), List.getElem?_eq_none (by simp; omega)]
theorem _root_.Bw.Wk.ch0 {n : Nat} {M : List (List Nat)} (h : Wk n M) {i j : Nat} (hi : i < n) (hj : j < n) : Bq.Sz 383 (chQ n (mf M) i j) :=
  fQ_sz (Nat.lt_of_lt_of_le (h.k i j hi hj) (pow_le (by omega))) (Nat.lt_of_lt_of_le (h.rs_lt hi) (pow_le (by omega))) (h.p i hi)
/-- the flows of a walk that was drawn -/
def spFlows : Sp := fun vs H Q _ => ∃ (W : Addr → Prop) (v : V) (n : Nat) (M : List (List Nat)), vs = [v] ∧ Dq W H v (tabD (walkM M)) ∧ Wk n M ∧
  ∀ v' H', Same H H' → Dq (Old H) H' v' (tabD (flT n M)) → Q v' H'
theorem ok_lflows {f : Addr} {fd : FuncData} (F : Fun K "_law_flows" "_law_flows" s_law_flows f fd) (M : Mb mg) (Dlaw_shares : Df P w K mg base 5 "_law_shares" ["going"] spShares) (Dlaw_times : Df P w K mg base 2 "_law_times" ["here", "there"] (spTimes K)) :
    FnOk P w K mg base CX0 6 f fd ["going"] spFlows := by
  refine F.ok c_law_flows (fun vs H Q E h => ?_) (fun cdv A outer s H vs Q E hr h => ?_)
  · obtain ⟨_, v, n, M, rfl, _⟩ := h
    rfl
  · obtain ⟨W, v, n, Mx, rfl, hd, wk, q⟩ := h
    refine ⟨_, (pss_cons (ps_set (i := 1) c_law_flows.nd rfl (.inr rfl) (pe_call Dlaw_shares.G (hr.mono (by first | decide | omega)) rfl Dlaw_shares.g Dlaw_shares.kp Dlaw_shares.b .nil pass0 (pa_cons (pv 0) pa_nil)))
 (pss_one (ps_ret (pe_callTy call_tuple_of (by rfl) M.tuple (by decide +kernel) (pa_cons (pe_lc (own := [("at", 2), ("row", 3)]) rfl c_law_flows.nd (pi_enumT (by rfl) M.enumerate (pa_cons (pv 0) pa_nil)) (blkOk_by (own := [("at", 2), ("row", 3)]) (N := n_law_flows) (sc := defScope s_law_flows) (by decide +kernel)) (fun _ _ _ _ _ => (pg_tupK (K := K) (n := 2) rfl rfl (pgs_cons (pg_name (i := 2) c_law_flows.nd rfl (.inr rfl)) (pgs_cons (pg_name (i := 3) c_law_flows.nd rfl (.inl rfl)) pgs_nil)))) (fun _ _ _ _ _ => pts_nil) (fun _ _ _ _ _ => (pe_callTy (call_tupK (K := K) rfl) (by rfl) M.tuple (by decide +kernel) (pa_cons (by exact (pe_lc (own := [("part", 4)]) rfl c_law_flows.nd (pi_tupK (K := K) rfl (pv 3)) (blkOk_by (by rfl)) (fun _ _ _ _ _ => (pg_name (i := 4) c_law_flows.nd rfl (.inl rfl))) (fun _ _ _ _ _ => pts_nil) (fun _ _ _ _ _ => (pe_call Dlaw_times.G (hr.mono (by first | decide | omega)) rfl Dlaw_times.g Dlaw_times.kp Dlaw_times.b .nil pass0 (pa_cons (pe_ix (ix_tupK (K := K) rfl) (pv 1) (pv 2) (fun _ _ => rfl)) (pa_cons (pv 4) pa_nil)))))) pa_nil)))) pa_nil))))), ?_⟩
    have n6 := wk.n6
    refine ⟨_, rfl, W, v, n, Mx, rfl, hd, wk, fun vr H1 s1 dr => ?_⟩
    obtain ⟨ra, rxs, rfl, nra, era, erl⟩ := dr.tupI
    obtain ⟨a, xs, rfl, na, ea, el⟩ := (hd.keep (Kp.same s1)).tupI
    rw [wk.tab] at el
    have rl : rxs.length = n := by
      have := erl.length
      simpa using this
    have xl : xs.length = n := by
      have := el.length
      simpa using this
    refine ⟨_, rfl, a, xs, rfl, .of ea, fun D nD => ?_⟩
    refine lc_rel (walk_enumT (K := K) (a := a) (xs := xs)) No (fun H' i y => i < n ∧ Dq (fun b => Old H b ∨ b = D) H' y (rowD ((List.range n).map fun j => flQ n Mx i j)))
      (fun H H' i v k r => ⟨r.1, r.2.keep (k.mono fun b z => z.elim (fun z => z.elim) .inr)⟩) nD (fun _ z => z.elim) (by omega) (fun H' k' => .of (no_same k' _ _ ea)) ?_ ?_
    · rintro i x H2 _ Q' hi k2 nD2 ⟨T, x1, y1, rfl, nT, rfl, e1, e2⟩ q'
      obtain rfl := Option.some.inj e1
      have s2 := no_same k2
      have s3 : Same H2 (upd H2 T (.tup [.int (i : Nat), y1])) := same_new nT
      have eT : (upd H2 T (.tup [.int (i : Nat), y1])) T = some (.tup [.int (i : Nat), y1]) := upd_same
      have nD3 : (upd H2 T (.tup [.int (i : Nat), y1])) D ≠ none := fun z => nD2 (s3.free z)
      generalize upd H2 T (.tup [.int (i : Nat), y1]) = H3 at s3 eT nD3
      have s13 := s2.trans s3
      obtain ⟨hin, dy⟩ := tab_at el e2
      obtain ⟨b, ys, rfl, nb, eb, er⟩ := (dy.keep (Kp.same s13)).tupI
      have yl : ys.length = n := by
        have := er.length
        simpa using this
      refine ⟨T, _, rfl, .of eT, rfl, _, _, rfl, _, _, rfl, rfl, rfl, ?_⟩
      refine ⟨_, rfl, b, rfl, ⟨ys, .of eb⟩, fun D2 nD4 => ?_⟩
      refine lc_rel (walk_tup (K := K) (a := b) (xs := ys)) No (fun H' j y => j < n ∧ ∃ p, y = .ref p ∧ p ≠ D2 ∧ p ≠ D ∧ H p = none ∧ H' p = some (.tup [.int (flQ n Mx i j).num, .int (flQ n Mx i j).den]))
        (fun H H' j v k r => ?_) nD4 (fun _ z => z.elim) (by omega) (fun H' k' => .of (no_same k' _ _ eb)) ?_ ?_
      · obtain ⟨hj, p, rfl, g1, g2, g3, e⟩ := r
        exact ⟨hj, p, rfl, g1, g2, g3, k _ _ (fun z => z.elim id g1) e⟩
      · rintro j x _ H4 Q2 hj k4 nD5 ⟨rfl, hx⟩ q2
        have s4 := no_same k4
        have s14 := s13.trans s4
        obtain ⟨hjn, dx⟩ := row_at er hx
        have ew : rxs[i]? = some (rxs[i]'(by omega)) := List.getElem?_eq_getElem (by omega)
        obtain ⟨_, dw⟩ := row_at erl ew
        refine ⟨rfl, _, rfl, _, rfl, ra, rxs, (i : Int), _, rfl, rfl, .of (s14 _ _ era), atI_nat ew, _, rfl, ?_⟩
        refine ⟨_, _, _, _, 770, 383, rfl, (dw.keep (Kp.same s14)).fr, (dx.keep (Kp.same s4)).fr, wk.sh_sz hin, ?_, by omega, fun p np => ?_⟩
        · exact wk.ch0 hin hjn
        · rw [wk.fl_eq hin]
          refine q2 _ _ (Kp.new np) ⟨hjn, p, rfl, fun z => ?_, fun z => ?_, (s1.trans s14).free np, upd_same⟩
          · rw [z] at np
            exact nD5 np
          · rw [z] at np
            exact nD3 (s4.free np)
      · rintro H4 acc k4 eD4 hla ha
        have s4 := no_same k4
        refine ⟨D2, acc, rfl, .inl ⟨.of eD4, fun t nt => ?_⟩⟩
        refine q' _ _ (Kp.same ((s3.trans s4).trans (same_new nt))) ⟨hin, .tup (fun z => ?_) upd_same ?_⟩
        · rcases z with z | z
          · exact z (((s1.trans s13).trans s4).free nt)
          · rw [z] at nt
            exact nD3 (s4.free nt)
        · refine dqAll_of (by rw [List.length_map, List.length_map, List.length_range]; omega) fun j v e => ?_
          obtain ⟨hj, p, rfl, g1, g2, g3, ep⟩ := ha j v e
          refine ⟨_, by rw [List.getElem?_map, List.getElem?_map, List.getElem?_range hj]; rfl, fr_dq (fun z => ?_) (same_new nt _ _ ep)⟩
          rcases z with z | z
          · exact z g3
          · exact g2 z
    · rintro H2 acc k2 eD hla ha
      have s2 := no_same k2
      refine ⟨D, acc, rfl, .inl ⟨.of eD, fun t nt => q _ _ ((s1.trans s2).trans (same_new nt)) (.tup (fun z => z ((s1.trans s2).free nt)) upd_same ?_)⟩⟩
      have all : DqAll (fun b => Old H b ∨ b = D) H2 acc ((flT n Mx).map rowD) := dqAll_of (by unfold flT; rw [List.length_map, List.length_map, List.length_range]; omega) fun i v e => by
        obtain ⟨hi, h⟩ := ha i v e
        exact ⟨_, by unfold flT; rw [List.getElem?_map, List.getElem?_map, List.getElem?_range hi]; rfl, h⟩
      exact (all.keep (Kp.new nt)).weak fun b z => .inl z
/-- the walk backwards, of one that was drawn -/
def spBack : Sp := fun vs H Q _ => ∃ (W : Addr → Prop) (v : V) (n : Nat) (M : List (List Nat)), vs = [v] ∧ Dq W H v (tabD (walkM M)) ∧ Wk n M ∧
  ∀ v' H', Same H H' → Dq (Old H) H' v' (tabD (walkM (bkM n M))) → Q v' H'
theorem ok_lback {f : Addr} {fd : FuncData} (F : Fun K "_law_backward" "_law_backward" s_law_backward f fd) (M : Mb mg) (Dlaw_flows : Df P w K mg base 6 "_law_flows" ["going"] spFlows) (Dlaw_over_sum : Df P w K mg base 4 "_law_over_sum" ["row"] (spOverSum K)) :
    FnOk P w K mg base CX0 7 f fd ["going"] spBack := by
  refine F.ok c_law_backward (fun vs H Q E h => ?_) (fun cdv A outer s H vs Q E hr h => ?_)
  · obtain ⟨_, v, n, M, rfl, _⟩ := h
    rfl
  · obtain ⟨W, v, n, Mx, rfl, hd, wk, q⟩ := h
    refine ⟨_, (pss_cons (ps_set (i := 1) c_law_backward.nd rfl (.inr rfl) (pe_call Dlaw_flows.G (hr.mono (by first | decide | omega)) rfl Dlaw_flows.g Dlaw_flows.kp Dlaw_flows.b .nil pass0 (pa_cons (pv 0) pa_nil)))
 (pss_one (ps_ret (pe_callTy call_tuple_of (by rfl) M.tuple (by decide +kernel) (pa_cons (pe_lc (own := [("at", 2)]) rfl c_law_backward.nd (pi_range1 (by rfl) M.range (pa_cons (pe_callB call_len_seq (by rfl) M.len (by decide +kernel) (pa_cons (pv 0) pa_nil)) pa_nil)) (blkOk_by (own := [("at", 2)]) (N := n_law_backward) (sc := defScope s_law_backward) (by decide +kernel)) (fun _ _ _ _ _ => (pg_name (i := 2) c_law_backward.nd rfl (.inr rfl))) (fun _ _ _ _ _ => pts_nil) (fun _ _ _ _ _ => (pe_call Dlaw_over_sum.G (hr.mono (by first | decide | omega)) rfl Dlaw_over_sum.g Dlaw_over_sum.kp Dlaw_over_sum.b .nil pass0 (pa_cons (by exact (pe_lc (own := [("row", 3)]) rfl c_law_backward.nd (pi_tupK (K := K) rfl (pv 1)) (blkOk_by (by rfl)) (fun _ _ _ _ _ => (pg_name (i := 3) c_law_backward.nd rfl (.inl rfl))) (fun _ _ _ _ _ => pts_nil) (fun _ _ _ _ _ => (pe_ix (ix_tupK (K := K) rfl) (pv 3) (pv 2) (fun _ _ => rfl))))) pa_nil)))) pa_nil))))), ?_⟩
    have n6 := wk.n6
    refine ⟨_, rfl, W, v, n, Mx, rfl, hd, wk, fun vf H1 s1 df => ?_⟩
    obtain ⟨fa, fxs, rfl, nfa, efa, efl⟩ := df.tupI
    obtain ⟨a, xs, rfl, na, ea, el⟩ := (hd.keep (Kp.same s1)).tupI
    have xl : xs.length = n := by
      have := el.length
      rw [List.length_map, wk.len] at this
      exact this
    have fl : fxs.length = n := by
      have := efl.length
      unfold flT at this
      simpa using this
    refine ⟨_, rfl, a, xs, rfl, .inr (.of ea), ?_⟩
    refine ⟨_, rfl, by omega, by omega, fun D nD => ?_⟩
    have eb : walkM (bkM n Mx) = (List.range n).map fun i => (List.range n).map fun j => fQ (flN n Mx j i) / fQ (pN n (mf Mx) i) := by
      refine List.ext_getElem? fun i => ?_
      by_cases hi : i < n
      · rw [wk.bk_row hi, List.getElem?_map, List.getElem?_range hi]
        rfl
      · rw [List.getElem?_eq_none (by unfold walkM bkM; simp; omega), List.getElem?_eq_none (by simp; omega)]
    unfold flT at efl
    refine lc_rel (walk_range (lo := 0) (n := xs.length)) No (fun H' i y => i < n ∧ Dq (fun b => Old H b ∨ b = D) H' y (rowD ((List.range n).map fun j => fQ (flN n Mx j i) / fQ (pN n (mf Mx) i))))
      (fun H H' i v k r => ⟨r.1, r.2.keep (k.mono fun b z => z.elim (fun z => z.elim) .inr)⟩) nD (fun _ z => z.elim) (by omega) (fun H' k' => trivial) ?_ ?_
    · rintro i x _ H2 Q' hi k2 nD2 ⟨rfl, rfl⟩ q'
      have e0 : (0 : Int) + ((i : Nat) : Int) = ((i : Nat) : Int) := by omega
      dsimp only
      rw [e0]
      have hin : i < n := by omega
      have s2 := no_same k2
      refine ⟨rfl, _, rfl, fa, rfl, ⟨fxs, .of (s2 _ _ efa)⟩, fun D2 nD4 => ?_⟩
      refine lc_rel (walk_tup (K := K) (a := fa) (xs := fxs)) No (fun H' j y => j < n ∧ ∃ p, y = .ref p ∧ p ≠ D2 ∧ H' p = some (.tup [.int (flQ n Mx j i).num, .int (flQ n Mx j i).den]))
        (fun H H' j v k r => ?_) nD4 (fun _ z => z.elim) (by omega) (fun H' k' => .of (no_same k' _ _ (s2 _ _ efa))) ?_ ?_
      · obtain ⟨hj, p, rfl, g1, e⟩ := r
        exact ⟨hj, p, rfl, g1, k _ _ (fun z => z.elim id g1) e⟩
      · rintro j x _ H4 Q2 hj k4 nD5 ⟨rfl, hx⟩ q2
        have s4 := no_same k4
        obtain ⟨hjn, dx⟩ := tab_at efl hx
        obtain ⟨b, ys, rfl, nb, eb, er⟩ := (dx.keep (Kp.same s2)).tupI
        have yl : ys.length = n := by
          have := er.length
          simpa using this
        have ev : ys[i]? = some (ys[i]'(by omega)) := List.getElem?_eq_getElem (by omega)
        obtain ⟨_, dv⟩ := row_at er ev
        obtain ⟨p, ep, _, hp⟩ := dv.frI
        refine ⟨rfl, _, rfl, _, rfl, b, ys, (i : Int), _, rfl, rfl, .of (s4 _ _ eb), atI_nat ev, ?_⟩
        refine q2 _ _ (.refl _) ⟨hjn, p, ep, fun z => ?_, s4 _ _ hp⟩
        rw [← z, hp] at nD4
        cases nD4
      · rintro H4 acc k4 eD4 hla ha
        have s4 := no_same k4
        have al : acc.length = n := by omega
        refine ⟨D2, acc, (List.range n).map (fun j => fQ (flN n Mx j i) / fQ (allN n Mx)), 770, rfl, .of eD4, ⟨by rw [al, List.length_map, List.length_range], fun j v q e1 e2 => ?_⟩, fun q hq => ?_, ?_, ?_, wk.sum_pos hin, fun v H5 s5 dv => ?_⟩
        · have hj : j < n := by
            have := (List.getElem?_eq_some_iff.mp e1).1
            omega
          rw [List.getElem?_map, List.getElem?_range hj] at e2
          rw [← Option.some.inj e2]
          obtain ⟨_, p, rfl, _, e⟩ := ha j v e1
          exact ⟨p, rfl, .of e⟩
        · obtain ⟨j, hj, rfl⟩ := List.mem_map.mp hq
          exact wk.fl_sz (List.mem_range.mp hj) hin
        · rw [List.length_map, List.length_range]
          omega
        · rw [List.length_map, List.length_range]
          have : n * (770 + 1) ≤ 6 * (770 + 1) := Nat.mul_le_mul_right _ n6
          omega
        · rw [wk.bk_over hin] at dv
          refine q' _ _ (Kp.same (s4.trans s5)) ⟨hin, dv.weak fun b z => ?_⟩
          rcases z with z | z
          · exact fun e => z (((s1.trans s2).trans s4).free e)
          · rw [z]
            exact fun e => nD2 (s4.free e)
    · rintro H2 acc k2 eD hla ha
      have s2 := no_same k2
      rw [eb] at q
      refine ⟨D, acc, rfl, .inl ⟨.of eD, fun t nt => q _ _ ((s1.trans s2).trans (same_new nt)) (.tup (fun z => z ((s1.trans s2).free nt)) upd_same ?_)⟩⟩
      have all : DqAll (fun b => Old H b ∨ b = D) H2 acc (((List.range n).map fun i => (List.range n).map fun j => fQ (flN n Mx j i) / fQ (pN n (mf Mx) i)).map rowD) := dqAll_of (by rw [List.length_map, List.length_map, List.length_range]; omega) fun i v e => by
        obtain ⟨hi, h⟩ := ha i v e
        exact ⟨_, by rw [List.getElem?_map, List.getElem?_map, List.getElem?_range hi]; rfl, h⟩
      exact (all.keep (Kp.new nt)).weak fun b z => .inl z
end
end Kx
set_option exponentiation.threshold 4000
/-! The program's rings and their products. -/
namespace Kx
open PySem PySem.Spec PyProof.Rows L2 Bw
abbrev sis_place : Stmt := topS 9
abbrev nis_place : List Str := ["value", "many"]
theorem cis_place : FnScope nis_place ["value", "many"] (defScope sis_place) :=
  ⟨rfl, rfl, rfl, by decide +kernel, rfl, by decide +kernel, by decide +kernel⟩

abbrev sis_way : Stmt := topS 26
abbrev nis_way : List Str := ["value", "many", "place"]
theorem cis_way : FnScope nis_way ["value", "many"] (defScope sis_way) :=
  ⟨rfl, rfl, rfl, by decide +kernel, rfl, by decide +kernel, by decide +kernel⟩

abbrev scheck_walk : Stmt := topS 23
abbrev ncheck_walk : List Str := ["walk"]
theorem ccheck_walk : FnScope ncheck_walk ["walk"] (defScope scheck_walk) :=
  ⟨rfl, rfl, rfl, by decide +kernel, rfl, by decide +kernel, by decide +kernel⟩

abbrev sis_ring : Stmt := topS 27
abbrev nis_ring : List Str := ["walk", "value"]
theorem cis_ring : FnScope nis_ring ["walk", "value"] (defScope sis_ring) :=
  ⟨rfl, rfl, rfl, by decide +kernel, rfl, by decide +kernel, by decide +kernel⟩

abbrev sproduct_of : Stmt := topS 15
abbrev nproduct_of : List Str := ["fractions", "top", "bottom", "fraction"]
theorem cproduct_of : FnScope nproduct_of ["fractions"] (defScope sproduct_of) :=
  ⟨rfl, rfl, rfl, by decide +kernel, rfl, by decide +kernel, by decide +kernel⟩

abbrev sring_products : Stmt := topS 28
abbrev nring_products : List Str := ["walk", "ring", "ends", "around", "here", "there", "back"]
theorem cring_products : FnScope nring_products ["walk", "ring"] (defScope sring_products) :=
  ⟨rfl, rfl, rfl, by decide +kernel, rfl, by decide +kernel, by decide +kernel⟩

abbrev sproducts : Stmt := topS 29
abbrev nproducts : List Str := ["walk", "ring"]
theorem cproducts : FnScope nproducts ["walk", "ring"] (defScope sproducts) :=
  ⟨rfl, rfl, rfl, by decide +kernel, rfl, by decide +kernel, by decide +kernel⟩

/-- the program's number of places of a shortest ring -/
structure Mq (mg : Str → Option Value) where
  st : Tok
  short : mg "SHORTEST" = some (.int 3 st)
def natsD (w : List Nat) : PyData := .tuple (w.map fun x : Nat => .int (x : Nat))
def isPl (k : Int) : PyData → Bool
  | .int i => decide (0 ≤ i) && decide (i < k)
  | _ => false
structure WayW (k : Nat) (w : List Nat) : Prop where
  l : 3 ≤ w.length
  lt : ∀ x ∈ w, x < k
  nd : w.Nodup
  m : ∀ x ∈ w, w.headD 0 ≤ x
structure RingW (k : Nat) (w : List Nat) : Prop extends WayW k w where
  o : w.getD 1 0 < w.getD (w.length - 1) 0
theorem natsD_inj {w u : List Nat} (h : natsD w = natsD u) : w = u := by
  unfold natsD at h
  simp only [PyData.tuple.injEq] at h
  exact map_inj (fun a b e => by
    have := PyData.int.inj e
    omega) h
theorem all_pl {k : Nat} : ∀ {ds : List PyData}, ds.all (isPl k) = true → ∃ w : List Nat, ds = (w.map fun x : Nat => PyData.int (x : Nat)) ∧ ∀ x ∈ w, x < k
  | [], _ => ⟨[], rfl, fun x h => by simp at h⟩
  | d :: ds, h => by
    rw [List.all_cons, Bool.and_eq_true] at h
    obtain ⟨w, rfl, hw⟩ := all_pl h.2
    match d, h.1 with
    | .int i, h1 =>
      have h2 : (decide (0 ≤ i) && decide (i < (k : Int))) = true := h1
      rw [Bool.and_eq_true, decide_eq_true_eq, decide_eq_true_eq] at h2
      refine ⟨i.toNat :: w, ?_, fun x hx => ?_⟩
      · rw [List.map_cons]
        have : ((i.toNat : Nat) : Int) = i := by omega
        rw [this]
      · rcases List.mem_cons.mp hx with rfl | hx
        · omega
        · exact hw x hx
theorem pl_all {k : Nat} {w : List Nat} (h : ∀ x ∈ w, x < k) : (w.map fun x : Nat => PyData.int (x : Nat)).all (isPl k) = true := by
  rw [List.all_map, List.all_eq_true]
  intro x hx
  have := h x hx
  show (decide ((0 : Int) ≤ x) && decide ((x : Int) < (k : Int))) = true
  rw [Bool.and_eq_true, decide_eq_true_eq, decide_eq_true_eq]
  omega
theorem dq_nats {W : Addr → Prop} {H : Hp} : ∀ {xs : List V} {w : List Nat}, DqAll W H xs (w.map fun x : Nat => PyData.int (x : Nat)) → xs = nats w
  | _, [], h => by
    cases h
    rfl
  | _, x :: w, h => by
    cases h with
    | cons h t =>
      rw [h.intI, dq_nats t]
      rfl
theorem nats_dq {W : Addr → Prop} {H : Hp} : ∀ w : List Nat, DqAll W H (nats w) (w.map fun x : Nat => PyData.int (x : Nat))
  | [] => .nil
  | x :: w => .cons (.int x) (nats_dq w)
theorem nats_ints (w : List Nat) : nats w = (w.map fun x : Nat => (x : Int)).map V.int := by
  unfold nats
  rw [List.map_map]
  rfl
theorem sub_len : ∀ {l m : List Int}, l.Nodup → (∀ x ∈ l, x ∈ m) → l.length ≤ m.length
  | [], _, _, _ => Nat.zero_le _
  | x :: l, m, nd, h => by
    obtain ⟨n1, n2⟩ := List.nodup_cons.mp nd
    have hx := h x List.mem_cons_self
    have ih := sub_len (l := l) (m := m.erase x) n2 fun y hy => (List.mem_erase_of_ne (fun z => n1 (by rw [← z]; exact hy))).mpr (h y (List.mem_cons_of_mem _ hy))
    rw [List.length_erase_of_mem hx] at ih
    have := List.length_pos_of_mem hx
    rw [List.length_cons]
    omega
theorem nodup_back : ∀ {ns out : List Int}, out.Nodup → (∀ k, k ∈ out ↔ k ∈ ns) → out.length = ns.length → ns.Nodup
  | [], _, _, _, _ => List.nodup_nil
  | x :: t, out, nd, h, hl => by
    have hx : x ∉ t := fun z => by
      have := sub_len (m := t) nd fun y hy => by
        rcases List.mem_cons.mp ((h y).mp hy) with e | e
        · rw [e]
          exact z
        · exact e
      rw [List.length_cons] at hl
      omega
    have hxo : x ∈ out := (h x).mpr List.mem_cons_self
    refine List.nodup_cons.mpr ⟨hx, nodup_back (out := out.erase x) (nd.erase x) (fun k => ?_) ?_⟩
    · rw [nd.mem_erase_iff, h k]
      constructor
      · rintro ⟨z1, z2⟩
        exact (List.mem_cons.mp z2).resolve_left z1
      · intro z
        exact ⟨fun e => hx (by rw [← e]; exact z), List.mem_cons_of_mem _ z⟩
    · rw [List.length_erase_of_mem hxo, hl, List.length_cons]
      omega
theorem out_len {ns out : List Int} (nd : out.Nodup) (h : ∀ k, k ∈ out ↔ k ∈ ns) (nn : ns.Nodup) : out.length = ns.length :=
  Nat.le_antisymm (sub_len nd fun x hx => (h x).mp hx) (sub_len nn fun x hx => (h x).mpr hx)
theorem nodup_of_map {u : List Nat} (h : (u.map fun x : Nat => (x : Int)).Nodup) : u.Nodup := by
  unfold List.Nodup at *
  rw [List.pairwise_map] at h
  exact h.imp fun z e => z (by rw [e])
theorem nodup_map {u : List Nat} (h : u.Nodup) : (u.map fun x : Nat => (x : Int)).Nodup := by
  unfold List.Nodup at *
  rw [List.pairwise_map]
  exact h.imp fun z e => z (by omega)
theorem atI_end {xs : List V} {v : V} (h : 0 < xs.length) (e : xs[xs.length - 1]? = some v) : atI xs (-1) = some v := by
  have hl : xs.length - 1 < xs.length := by omega
  have e2 : xs = xs.take (xs.length - 1) ++ [v] := by
    rw [List.getElem?_eq_getElem hl] at e
    have h2 := List.take_concat_get hl
    rw [Option.some.inj e] at h2
    rw [show xs.length - 1 + 1 = xs.length by omega, List.take_length] at h2
    rw [← List.concat_eq_append]
    exact h2.symm
  rw [e2]
  exact atI_last _ _
section
variable {P : Program} {w : World} {K : PySem.W.Frag} {mg : Str → Option Value} {base : Heap}
def spPlace : Sp := fun vs H Q _ => ∃ (W : Addr → Prop) (v : V) (d : PyData) (k : Int), vs = [v, .int k] ∧ Dq W H v d ∧ Q (.bl (isPl k d)) H
theorem ok_is_place {f : Addr} {fd : FuncData} (F : Fun K "is_place" "is_place" sis_place f fd) (M : Mb mg) (Dis_whole : Df P w K mg base 1 "is_whole" ["value"] (spAsk isNum)) : FnOk P w K mg base CX0 2 f fd ["value", "many"] spPlace := by
  refine F.ok cis_place (fun vs H Q E h => ?_) (fun cdv A outer s H vs Q E hr h => ?_)
  · obtain ⟨_, v, d, k, rfl, _⟩ := h
    rfl
  · obtain ⟨W, v, d, k, rfl, hd, q⟩ := h
    refine ⟨_, (pss_one (ps_ret (pe_and (pe_call Dis_whole.G (hr.mono (by first | decide | omega)) rfl Dis_whole.g Dis_whole.kp Dis_whole.b .nil pass0 (pa_cons (pv 0) pa_nil)) (pe_one (pe_chain op_le op_lt pe_int (pv 0) (pv 1)))))), ?_⟩
    refine ⟨_, rfl, W, v, d, rfl, hd, _, rfl, ?_⟩
    cases hd with
    | int i =>
      refine ifT rfl ?_
      refine ⟨_, rfl, _, _, rfl, rfl, _, rfl, ite2 (fun c => ?_) (fun c => ?_)⟩
      · refine ⟨_, rfl, _, _, rfl, rfl, ?_⟩
        have e : isPl k (.int i) = decide (i < k) := by
          show (decide (0 ≤ i) && decide (i < k)) = _
          rw [c, Bool.true_and]
        rw [e] at q
        exact q
      · have e : isPl k (.int i) = false := by
          show (decide (0 ≤ i) && decide (i < k)) = _
          rw [Bool.eq_false_iff.mpr c, Bool.false_and]
        rw [e] at q
        exact q
    | _ => exact ifF (fun z => nomatch z) q
def spWay : Sp := fun vs H Q _ => ∃ (W : Addr → Prop) (v : V) (d : PyData) (k : Nat), vs = [v, .int (k : Nat)] ∧ Dq W H v d ∧ lnB d = true ∧ ∀ H' b, Same H H' → (b = true ↔ ∃ u, d = natsD u ∧ WayW k u) → Q (.bl b) H'
theorem ok_is_way {f : Addr} {fd : FuncData} (F : Fun K "is_way" "is_way" sis_way f fd) (M : Mb mg) (Y : Mq mg) (Dis_place : Df P w K mg base 2 "is_place" ["value", "many"] spPlace) : FnOk P w K mg base CX0 3 f fd ["value", "many"] spWay := by
  refine F.ok cis_way (fun vs H Q E h => ?_) (fun cdv A outer s H vs Q E hr h => ?_)
  · obtain ⟨_, v, d, k, rfl, _⟩ := h
    rfl
  · obtain ⟨W, v, d, k, rfl, hd, hln, q⟩ := h
    refine ⟨_, (pss_cons (ps_if (PW.pt (pw_or (pt_not (pt_val (pe_callB call_isD (by rfl) M.isinstance (by decide +kernel) (pa_cons (pv 0) (pa_cons (pe_bltn (v := .ty "tuple") rfl M.tuple (by decide +kernel) rfl) pa_nil))))) (pw_or1 (pt_cmpR op_lt (pe_callB call_len_seq (by rfl) M.len (by decide +kernel) (pa_cons (pv 0) pa_nil)) (pe_glob (v := .int 3) rfl Y.short ⟨_, rfl⟩) (nomark _)))))
 (pss_one (ps_ret pe_bl))
 pss_nil)
 (pss_cons (ps_if (pt_not (pt_val (pe_callB (cr_all rfl) (by rfl) M.all (by decide +kernel) (pa_cons (pe_lc (own := [("place", 2)]) rfl cis_way.nd (pi_tup (pv 0)) (blkOk_by (own := [("place", 2)]) (N := nis_way) (sc := defScope sis_way) (by decide +kernel)) (fun _ _ _ _ _ => (pg_name (i := 2) cis_way.nd rfl (.inl rfl))) (fun _ _ _ _ _ => pts_nil) (fun _ _ _ _ _ => (pe_call Dis_place.G (hr.mono (by first | decide | omega)) rfl Dis_place.g Dis_place.kp Dis_place.b .nil pass0 (pa_cons (pv 2) (pa_cons (pv 1) pa_nil))))) pa_nil))))
 (pss_one (ps_ret pe_bl))
 pss_nil)
 (pss_one (ps_ret (pe_and (pe_cmpR op_eq (pe_lenSetT (by rfl) M.len (by rfl) M.set (pv 0)) (pe_callB call_len_seq (by rfl) M.len (by decide +kernel) (pa_cons (pv 0) pa_nil)) (nomark _)) (pe_one (pe_cmpR op_eq (pe_ix ix_tup (pv 0) pe_int (fun _ _ => rfl)) (pe_callB (cr_minT rfl) (by rfl) M.min (by decide +kernel) (pa_cons (pv 0) pa_nil)) (nomark _)))))))), ?_⟩
    refine ⟨_, rfl, W, v, d, "tuple", _, rfl, hd, kit_tup d, _, rfl, ?_⟩
    cases hd with
    | tup na ea el =>
      rename_i a xs ds
      have hl := el.length
      have hln' : ds.length ≤ 100 := of_decide_eq_true hln
      refine ifF (fun z => nomatch z) ?_
      refine ⟨_, rfl, a, xs, rfl, .inr (.of ea), _, _, rfl, rfl, _, rfl, ite2 (fun c => ?_) (fun c => ?_)⟩
      · refine q H false (.refl H) ⟨(fun z => nomatch z), fun ⟨u, e, wu⟩ => ?_⟩
        have h1 := wu.l
        have h2 : ds.length = u.length := by
          have := congrArg (fun d => match d with | .tuple l => l.length | _ => 0) e
          simpa [natsD] using this
        have h3 := of_decide_eq_true c
        omega
      have c3 : 3 ≤ xs.length := by
        simp at c
        omega
      refine ⟨_, rfl, a, rfl, ⟨xs, .of ea⟩, fun D nD => lc_rel (walk_tup (K := K) (a := a) (xs := xs)) No (fun H i y => ∃ b, y = .bl b ∧ (ds.map (isPl k))[i]? = some b) (fun _ _ _ _ _ r => r) nD (fun _ z => z.elim) (by omega)
        (fun H' k' => .of (k' _ _ id ea)) ?_ ?_⟩
      · rintro i x H1 _ Q' hi k1 _ ⟨rfl, hx⟩ q'
        obtain ⟨d, hd, dx⟩ := el.at hx
        exact ⟨rfl, _, rfl, _, rfl, W, x, d, k, rfl, dx.keep (Kp.same (no_same k1)), q' _ _ (.refl _) ⟨_, rfl, by rw [List.getElem?_map, hd]; rfl⟩⟩
      · rintro H1 acc k1 eD hla ha
        have s1 := no_same k1
        refine ⟨D, ds.map (isPl k), rfl, .of ?_, ?_⟩
        · rw [eD, bls_of (by rw [hla, List.length_map, hl]) ha]
        have e : (ds.map (isPl k)).all id = ds.all (isPl k) := by
          rw [List.all_map]
          rfl
        rw [e]
        refine ⟨_, rfl, ?_⟩
        cases hA : ds.all (isPl k) with
        | false =>
          refine ifT rfl (q H1 false s1 ⟨(fun z => nomatch z), fun ⟨u, e, wu⟩ => ?_⟩)
          unfold natsD at e
          simp only [PyData.tuple.injEq] at e
          rw [e, pl_all wu.lt] at hA
          cases hA
        | true =>
          refine ifF (fun z => nomatch z) ?_
          obtain ⟨u, rfl, hu⟩ := all_pl hA
          obtain rfl := dq_nats el
          have ea1 := s1 _ _ ea
          rw [nats_ints] at ea1
          rw [nats_len] at c3
          have lz : ((nats u).length : Nat) = u.length := nats_len u
          refine ⟨_, rfl, a, _, rfl, .of ea1, by rw [List.length_map]; rw [List.length_map] at hln'; omega, fun out nd mem => ?_⟩
          refine ⟨_, rfl, a, _, rfl, .inr (.of ea1), rfl, _, rfl, ite2 (fun c2 => ?_) (fun c2 => ?_)⟩
          · have c2' := V.int.inj (of_decide_eq_true c2)
            have ndu : u.Nodup := by
              have h1 : (u.map fun x : Nat => (x : Int)).Nodup := nodup_back nd mem (by
                rw [List.length_map] at c2'
                omega)
              exact nodup_of_map h1
            obtain ⟨x0, t0, rfl⟩ : ∃ x t, u = x :: t := by
              cases u with
              | nil => simp at c3
              | cons x t => exact ⟨x, t, rfl⟩
            refine ⟨_, rfl, a, _, 0, .int (x0 : Nat), rfl, rfl, .of ea1, atI_nat (j := 0) rfl, ?_⟩
            refine ⟨_, rfl, a, _, rfl, .of ea1, by simp, fun m hm hle => ⟨rfl, ?_⟩⟩
            refine q H1 _ s1 ⟨fun z => ⟨x0 :: t0, rfl, c3, hu, ndu, fun y hy => ?_⟩, fun ⟨u', e, wu⟩ => ?_⟩
            · have e1 := V.int.inj (of_decide_eq_true z)
              have h2 := hle (y : Int) (List.mem_map.mpr ⟨y, hy, rfl⟩)
              show x0 ≤ y
              omega
            · have e2 := natsD_inj (u := u') e
              subst e2
              obtain ⟨y, hy, rfl⟩ := List.mem_map.mp hm
              have h2 := wu.m y hy
              have h3 := hle (x0 : Int) (List.mem_map.mpr ⟨x0, List.mem_cons_self, rfl⟩)
              have h2' : x0 ≤ y := h2
              refine decide_eq_true ?_
              have : (x0 : Int) = (y : Int) := by omega
              rw [this]
          · refine q H1 false s1 ⟨(fun z => nomatch z), fun ⟨u', e, wu⟩ => ?_⟩
            have e2 := natsD_inj (u := u') e
            subst e2
            refine absurd (decide_eq_true ?_) c2
            have h1 := out_len nd mem (nodup_map wu.nd)
            rw [h1]
            simp
    | _ => exact ifT rfl (q H false (.refl H) ⟨(fun z => nomatch z), fun ⟨u, e, _⟩ => by unfold natsD at e; cases e⟩)
/-- what is no walk is told off -/
def spCheck (n : Nat) : Sp := fun vs H Q _ => ∃ (W : Addr → Prop) (v : V) (d : PyData), vs = [v] ∧ Dq W H v d ∧ Bd n d ∧ IsWalk d ∧ ∀ H', Same H H' → Q .non H'
theorem ok_check {n : Nat} {f : Addr} {fd : FuncData} (F : Fun K "check_walk" "check_walk" scheck_walk f fd) (M : Mb mg) (Dis_walk : Df P w K mg base 6 "is_walk" ["value"] (spWalk n)) : FnOk P w K mg base CX0 7 f fd ["walk"] (spCheck n) := by
  refine F.ok ccheck_walk (fun vs H Q E h => ?_) (fun cdv A outer s H vs Q E hr h => ?_)
  · obtain ⟨_, v, d, rfl, _⟩ := h
    rfl
  · obtain ⟨W, v, d, rfl, hd, hb, iw, q⟩ := h
    refine ⟨_, (pss_one (ps_if (pt_not (pt_val (pe_call Dis_walk.G (hr.mono (by first | decide | omega)) rfl Dis_walk.g Dis_walk.kp Dis_walk.b .nil pass0 (pa_cons (pv 0) pa_nil))))
 (pss_one ps_never)
 pss_nil)), ?_⟩
    refine ⟨_, rfl, W, v, d, rfl, hd, hb, fun H1 b s1 hb1 => ⟨_, rfl, ?_⟩⟩
    obtain rfl := hb1.mpr iw
    exact ifF (fun z => nomatch z) (q H1 s1)
/-- is it a ring of this walk -/
def spRing (n : Nat) : Sp := fun vs H Q _ => ∃ (W W2 : Addr → Prop) (v u : V) (m : List (List Rat)) (d : PyData), vs = [v, u] ∧ Dq W H v (tabD m) ∧ Bd n (tabD m) ∧ IsWalk (tabD m) ∧ Dq W2 H u d ∧ lnB d = true ∧
  ∀ H' b, Same H H' → (b = true ↔ ∃ u, d = natsD u ∧ RingW m.length u) → Q (.bl b) H'
theorem ok_is_ring {n : Nat} {f : Addr} {fd : FuncData} (F : Fun K "is_ring" "is_ring" sis_ring f fd) (M : Mb mg) (Dcheck_walk : Df P w K mg base 7 "check_walk" ["walk"] (spCheck n)) (Dis_way : Df P w K mg base 3 "is_way" ["value", "many"] spWay) :
    FnOk P w K mg base CX0 8 f fd ["walk", "value"] (spRing n) := by
  refine F.ok cis_ring (fun vs H Q E h => ?_) (fun cdv A outer s H vs Q E hr h => ?_)
  · obtain ⟨_, _, v, u, m, d, rfl, _⟩ := h
    rfl
  · obtain ⟨W, W2, v, u, m, d, rfl, hd, hb, iw, hu, hln, q⟩ := h
    refine ⟨_, (pss_cons (ps_expr (pe_call Dcheck_walk.G (hr.mono (by first | decide | omega)) rfl Dcheck_walk.g Dcheck_walk.kp Dcheck_walk.b .nil pass0 (pa_cons (pv 0) pa_nil)))
 (pss_one (ps_ret (pe_and (pe_call Dis_way.G (hr.mono (by first | decide | omega)) rfl Dis_way.g Dis_way.kp Dis_way.b .nil pass0 (pa_cons (pv 1) (pa_cons (pe_callB call_len_seq (by rfl) M.len (by decide +kernel) (pa_cons (pv 0) pa_nil)) pa_nil))) (pe_one (pe_cmpR op_lt (pe_ix ix_tup (pv 1) pe_int (fun _ _ => rfl)) (pe_ix ix_tup (pv 1) (pe_un un_neg pe_int) (fun _ _ => rfl)) (nomark _))))))), ?_⟩
    refine ⟨_, rfl, W, v, _, rfl, hd, hb, iw, fun H1 s1 => ?_⟩
    obtain ⟨a, xs, rfl, na, ea, el⟩ := (hd.keep (Kp.same s1)).tupI
    have xl : xs.length = m.length := by
      have := el.length
      rwa [List.length_map] at this
    have hu1 := hu.keep (Kp.same s1)
    refine ⟨_, rfl, _, rfl, a, xs, rfl, .inr (.of ea), W2, u, d, m.length, by rw [xl]; rfl, hu1, hln, fun H2 b s2 hb2 => ⟨_, rfl, ?_⟩⟩
    cases b with
    | false =>
      refine ifF (fun z => nomatch z) (q H2 false (s1.trans s2) ⟨(fun z => nomatch z), fun ⟨w, e, rw⟩ => ?_⟩)
      exact hb2.mpr ⟨w, e, rw.toWayW⟩
    | true =>
      obtain ⟨w, rfl, ww⟩ := hb2.mp rfl
      refine ifT rfl ?_
      obtain ⟨b, ys, rfl, nb, eb, er⟩ := (hu1.keep (Kp.same s2)).tupI
      obtain rfl := dq_nats er
      have l3 := ww.l
      have e1 : (nats w)[1]? = some (.int (w.getD 1 0 : Nat)) := by
        unfold nats
        rw [List.getElem?_map, List.getD_eq_getElem?_getD, List.getElem?_eq_getElem (by omega)]
        rfl
      have e2 : (nats w)[w.length - 1]? = some (.int (w.getD (w.length - 1) 0 : Nat)) := by
        unfold nats
        rw [List.getElem?_map, List.getD_eq_getElem?_getD, List.getElem?_eq_getElem (by omega)]
        rfl
      refine ⟨_, rfl, b, _, 1, _, rfl, rfl, .of eb, atI_nat e1, ?_⟩
      refine ⟨_, rfl, _, rfl, b, _, _, _, rfl, rfl, .of eb, atI_end (by rw [nats_len]; omega) (by rw [nats_len]; exact e2), _, _, rfl, rfl, ?_⟩
      refine q H2 _ (s1.trans s2) ⟨fun z => ⟨w, rfl, ⟨ww, ?_⟩⟩, fun ⟨w', e, rw⟩ => ?_⟩
      · have := of_decide_eq_true z
        omega
      · obtain rfl := natsD_inj e
        have := rw.o
        refine decide_eq_true ?_
        omega
/-- the product of a row -/
def prQ : List Rat → Rat
  | [] => 1
  | q :: r => q * prQ r
theorem prQ_app : ∀ l m : List Rat, prQ (l ++ m) = prQ l * prQ m
  | [], m => by
    rw [List.nil_append, prQ]
    grind
  | a :: l, m => by
    rw [List.cons_append, prQ, prQ_app l m, prQ]
    grind
theorem prQ_take {qs : List Rat} {i : Nat} {q : Rat} (h : qs[i]? = some q) : prQ (qs.take (i + 1)) = prQ (qs.take i) * q := by
  rw [List.take_succ, h, prQ_app]
  simp only [Option.toList, prQ]
  grind
def spProd (K : PySem.W.Frag) : Sp := fun vs H Q _ => ∃ (a : Addr) (xs : List V) (qs : List Rat) (n : Nat), vs = [.ref a] ∧ SqL K H a xs ∧ FrRow K H xs qs ∧ (∀ q ∈ qs, Bq.Sz n q) ∧ 1 + qs.length * n ≤ 9000 ∧
  ∀ v H', Same H H' → Dq (Old H) H' v (frD (prQ qs)) → Q v H'
theorem ok_prod {f : Addr} {fd : FuncData} (F : Fun K "product_of" "product_of" sproduct_of f fd) (M : Mb mg) (Dlowest : Df P w K mg base 1 "lowest" ["top", "bottom"] spLowest) : FnOk P w K mg base CX0 2 f fd ["fractions"] (spProd K) := by
  refine F.ok cproduct_of (fun vs H Q E h => ?_) (fun cdv A outer s H vs Q E hr h => ?_)
  · obtain ⟨a, xs, qs, n, rfl, _⟩ := h
    rfl
  · obtain ⟨a, xs, qs, n, rfl, ha, hx, hs, hn, q⟩ := h
    refine ⟨_, (pss_cons (ps_asg (pe_tup (pa_cons pe_int (pa_cons pe_int pa_nil))) (pg_tup rfl (pgs_cons (pg_name (i := 1) cproduct_of.nd rfl (.inl rfl)) (pgs_cons (pg_name (i := 2) cproduct_of.nd rfl (.inl rfl)) pgs_nil))))
 (pss_cons (ps_for PassesOwn.never rfl (pi_list (pv 0)) (pg_name (i := 3) cproduct_of.nd rfl (.inl rfl))
 (pss_cons (ps_aug (i := 1) cproduct_of.nd rfl (.inl rfl) (pe_ix ix_tup (pv 3) pe_int (fun _ _ => rfl)) ip_mulW)
 (pss_one (ps_aug (i := 2) cproduct_of.nd rfl (.inl rfl) (pe_ix ix_tup (pv 3) pe_int (fun _ _ => rfl)) ip_mulW))))
 (pss_one (ps_ret (pe_call Dlowest.G (hr.mono (by first | decide | omega)) rfl Dlowest.g Dlowest.kp Dlowest.b .nil pass0 (pa_cons (pv 1) (pa_cons (pv 2) pa_nil))))))), ?_⟩
    refine ⟨sz63 (by show 2 ≤ 1000; decide), fun t0 nt0 => ⟨t0, _, rfl, .of upd_same, rfl, _, _, rfl, _, _, rfl, rfl, ?_⟩⟩
    have s0 : Same H (upd H t0 (.tup [.int 1, .int 1])) := same_new nt0
    generalize upd H t0 (.tup [.int 1, .int 1]) = H0 at s0 ⊢
    refine ⟨_, rfl, a, rfl, ⟨_, s0.seq ha⟩, for_list (K := K) (a := a) (xs := xs)
      (fun i σ H' => ∃ (tp bt : Int) (y : Option V), σ = [some (.ref a), some (.int tp), some (.int bt), y] ∧ Same H H' ∧ 0 < bt ∧ tp.natAbs < 2 ^ (1 + i * n) ∧ bt.natAbs < 2 ^ (1 + i * n) ∧ Rat.divInt tp bt = prQ (qs.take i))
      ⟨1, 1, none, rfl, s0, by decide, by rw [Nat.zero_mul]; decide, by rw [Nat.zero_mul]; decide, by rw [List.take_zero, prQ]; decide⟩ (fun i σ H' _ ⟨_, _, _, _, s, _⟩ => s.seq ha) ?_ ?_⟩
    · rintro i x σ H1 hi ⟨tp, bt, y, rfl, s1, b0, hb1, hb2, he⟩
      have hl : i < qs.length := by
        rw [← hx.1]
        exact (List.getElem?_eq_some_iff.mp hi).1
      have e : qs[i]? = some qs[i] := List.getElem?_eq_getElem hl
      have hb : i * n + n ≤ qs.length * n := by
        rw [← Nat.succ_mul]
        exact Nat.mul_le_mul_right _ hl
      obtain ⟨p, rfl, hp⟩ := (hx.2 i x _ hi e).same s1
      have sz := hs _ (List.mem_of_getElem? e)
      have n0 := sz_pos sz
      have pw : 1 + (i + 1) * n = (1 + i * n) + n := by
        rw [Nat.succ_mul]
        omega
      refine ⟨_, rfl, _, rfl, p, _, 0, _, rfl, rfl, hp, rfl, _, _, rfl, rfl, mulW hb1 sz.1 (by omega) n0 (by omega), ?_⟩
      refine ⟨_, rfl, _, rfl, p, _, 1, _, rfl, rfl, hp, rfl, _, _, rfl, rfl, mulW hb2 (Bq.den_abs sz) (by omega) n0 (by omega), ?_⟩
      refine ⟨_, _, _, rfl, s1, Int.mul_pos b0 (Bq.den_pos _), by rw [pw]; exact Bq.mul_lt hb1 sz.1, by rw [pw]; exact Bq.mul_lt hb2 (Bq.den_abs sz), ?_⟩
      rw [prQ_take e, ← he]
      have h2 := Rat.divInt_mul_divInt tp (qs[i]).num (d₁ := bt) (d₂ := ((qs[i]).den : Int))
      rw [Bq.num_over] at h2
      exact h2.symm
    · rintro σ H1 ⟨tp, bt, y, rfl, s1, b0, hb1, hb2, he⟩
      rw [hx.1, List.take_length] at he
      refine ⟨_, rfl, _, rfl, tp, bt, _, rfl, b0, hb2, by rw [hx.1]; exact hn, fun p hp => ?_⟩
      rw [he]
      exact q _ _ (s1.trans (same_new hp)) (fr_dq (fun z => z (s1.free hp)) upd_same)
/-- a table by a function -/
def tabF (n : Nat) (f : Nat → Nat → Rat) : List (List Rat) := (List.range n).map fun i => (List.range n).map fun j => f i j
def pairD (f : Nat → Nat → Rat) (w : List Nat) : PyData := .tuple [frD (fw f (stp w)), frD (fw (fun x y => f y x) (stp w))]
/-- both products of a row of places, around -/
def spPair : Sp := fun vs H Q _ => ∃ (W : Addr → Prop) (v : V) (n : Nat) (f : Nat → Nat → Rat) (l : Addr) (u : List Nat), vs = [v, .ref l] ∧ Dq W H v (tabD (tabF n f)) ∧ H l = some (.tup (nats u)) ∧ (∀ x ∈ u, x < n) ∧ 2 ≤ u.length ∧ u.length ≤ 6 ∧ n ≤ 6 ∧
  (∀ i j, i < n → j < n → Bq.Sz 770 (f i j)) ∧ ∀ v' H', Same H H' → Dq (Old H) H' v' (pairD f u) → Q v' H'
theorem fw_pr (f : Nat → Nat → Rat) : ∀ l : List (Nat × Nat), prQ (l.map fun p => f p.1 p.2) = fw f l
  | [] => rfl
  | p :: l => by
    rw [List.map_cons, prQ, fw_pr f l, fw]
theorem ok_ringp {f : Addr} {fd : FuncData} (F : Fun K "ring_products" "ring_products" sring_products f fd) (M : Mb mg) (Dproduct_of : Df P w K mg base 2 "product_of" ["fractions"] (spProd K)) : FnOk P w K mg base CX0 3 f fd ["walk", "ring"] spPair := by
  refine F.ok cring_products (fun vs H Q E h => ?_) (fun cdv A outer s H vs Q E hr h => ?_)
  · obtain ⟨_, v, n, g, l, u, rfl, _⟩ := h
    rfl
  · obtain ⟨W, v, n, g, l, u, rfl, hd, el, hu, l2, l6, n6, sz, q⟩ := h
    refine ⟨_, (pss_cons (ps_set (i := 2) cring_products.nd rfl (.inl rfl) (pe_op op_catA (pe_slice sl_tupA (pv 1) (po_some pe_int) po_none) (pe_slice sl_tupA (pv 1) po_none (po_some pe_int))))
 (pss_cons (ps_setLc (i := 3) (own := [("here", 4), ("there", 5)]) rfl cring_products.nd rfl rfl (sw_true rfl rfl rfl (by decide +kernel)) (RZ.pi_zipA (by rfl) M.zip (pa_cons (pv 1) (pa_cons (pv 2) pa_nil))) (blkOk_by (own := [("here", 4), ("there", 5)]) (N := nring_products) (sc := defScope sring_products) (by decide +kernel)) (fun _ _ _ _ _ => (pg_tupK (K := K) (n := 2) rfl rfl (pgs_cons (pg_name (i := 4) cring_products.nd rfl (.inl rfl)) (pgs_cons (pg_name (i := 5) cring_products.nd rfl (.inl rfl)) pgs_nil)))) (fun _ _ _ _ _ => pts_nil) (fun _ _ _ _ _ => (pe_ix (ix_tupK (K := K) rfl) (pe_ix (ix_tupK (K := K) rfl) (pv 0) (pv 4) (fun _ _ => rfl)) (pv 5) (fun _ _ => rfl))))
 (pss_cons (ps_setLc (i := 6) (own := [("here", 4), ("there", 5)]) rfl cring_products.nd rfl rfl (sw_true rfl rfl rfl (by decide +kernel)) (RZ.pi_zipA (by rfl) M.zip (pa_cons (pv 1) (pa_cons (pv 2) pa_nil))) (blkOk_by (own := [("here", 4), ("there", 5)]) (N := nring_products) (sc := defScope sring_products) (by decide +kernel)) (fun _ _ _ _ _ => (pg_tupK (K := K) (n := 2) rfl rfl (pgs_cons (pg_name (i := 4) cring_products.nd rfl (.inl rfl)) (pgs_cons (pg_name (i := 5) cring_products.nd rfl (.inl rfl)) pgs_nil)))) (fun _ _ _ _ _ => pts_nil) (fun _ _ _ _ _ => (pe_ix (ix_tupK (K := K) rfl) (pe_ix (ix_tupK (K := K) rfl) (pv 0) (pv 5) (fun _ _ => rfl)) (pv 4) (fun _ _ => rfl))))
 (pss_one (ps_ret (pe_tup (pa_cons (pe_call Dproduct_of.G (hr.mono (by first | decide | omega)) rfl Dproduct_of.g Dproduct_of.kp Dproduct_of.b .nil pass0 (pa_cons (pv 3) pa_nil)) (pa_cons (pe_call Dproduct_of.G (hr.mono (by first | decide | omega)) rfl Dproduct_of.g Dproduct_of.kp Dproduct_of.b .nil pass0 (pa_cons (pv 6) pa_nil)) pa_nil)))))))), ?_⟩
    obtain ⟨a, xs, rfl, na, ea, ex⟩ := hd.tupI
    have xl : xs.length = n := by
      have := ex.length
      unfold tabF at this
      simpa using this
    have cell : ∀ i j, i < n → j < n → ∃ r p, xs[i]? = some (.ref r) ∧ ∃ ys, H r = some (.tup ys) ∧ ys[j]? = some (.ref p) ∧ H p = some (.tup [.int (g i j).num, .int (g i j).den]) := fun i j hi hj => by
      have e1 : xs[i]? = some (xs[i]'(by omega)) := List.getElem?_eq_getElem (by omega)
      obtain ⟨_, dy⟩ := tab_at ex e1
      obtain ⟨r, ys, e2, nb, eb, er⟩ := dy.tupI
      have yl : ys.length = n := by
        have := er.length
        simpa using this
      have e3 : ys[j]? = some (ys[j]'(by omega)) := List.getElem?_eq_getElem (by omega)
      obtain ⟨_, dv⟩ := row_at er e3
      obtain ⟨p, e4, _, ep⟩ := dv.frI
      rw [e2] at e1
      rw [e4] at e3
      exact ⟨r, p, e1, ys, eb, e3, ep⟩
    -- ends
    refine ⟨_, rfl, _, rfl, ?_⟩
    dsimp only [tNoPart]
    refine sl_by el fun p1 H1 s1 e1 _ => ⟨_, rfl, _, rfl, ?_⟩
    refine sl_by (s1 _ _ el) fun p2 H2 s2 e2 _ => ?_
    have c1 : cutV (nats u) (some 1) none = (nats u).drop 1 := cut_from (n := 1) (by rw [nats_len]; omega)
    have c2 : cutV (nats u) none (some 1) = (nats u).take 1 := cut_to (n := 1) (by rw [nats_len]; omega)
    rw [c1] at e1
    rw [c2] at e2
    refine cat_by (s2 _ _ e1) e2 (by rw [List.length_drop, List.length_take, nats_len]; omega) fun eA H3 s3 e3 _ => ?_
    have er : (nats u).drop 1 ++ (nats u).take 1 = nats (rot u) := by
      unfold nats rot
      rw [List.map_append, List.map_drop, List.map_take]
    rw [er] at e3
    have s13 := (s1.trans s2).trans s3
    have el3 := s13 _ _ el
    have ll : (nats u).length = (nats (rot u)).length := by rw [nats_len, nats_len, rot_len]
    have sl : (stp u).length = u.length := by
      unfold stp
      rw [List.length_zip, rot_len, Nat.min_self]
    have at2 : ∀ (i : Nat) x y, (nats u)[i]? = some x → (nats (rot u))[i]? = some y → ∃ e, (stp u)[i]? = some e ∧ e.1 < n ∧ e.2 < n ∧ x = .int (e.1 : Nat) ∧ y = .int (e.2 : Nat) := fun i x y e1 e2 => by
      obtain ⟨b, h1, rfl⟩ := nats_get e1
      obtain ⟨c, h2, rfl⟩ := nats_get e2
      have e : (stp u)[i]? = some (b, c) := by
        unfold stp
        exact List.getElem?_zip_eq_some.mpr ⟨h1, h2⟩
      have m := stp_mem (List.mem_of_getElem? e)
      exact ⟨(b, c), e, hu _ m.1, hu _ m.2, rfl, rfl⟩
    have cell' : ∀ {H' : Hp}, Same H H' → ∀ i j, i < n → j < n → ∃ r p, xs[i]? = some (.ref r) ∧ ∃ ys, H' r = some (.tup ys) ∧ ys[j]? = some (.ref p) ∧ H' p = some (.tup [.int (g i j).num, .int (g i j).den]) ∧ H p ≠ none := fun s i j hi hj => by
      obtain ⟨r, p, g1, ys, g2, g3, g4⟩ := cell i j hi hj
      exact ⟨r, p, g1, ys, s _ _ g2, g3, s _ _ g4, by rw [g4]; exact fun z => nomatch z⟩
    -- around
    refine ⟨_, rfl, _, rfl, l, eA, _, _, rfl, .inr ⟨.of el3, .of e3, fun D nD => ?_⟩⟩
    refine lc_rel (walk_zipT (K := K) ll) No (fun H' i y => ∃ p, y = .ref p ∧ p ≠ D ∧ ∃ e, (stp u)[i]? = some e ∧ H' p = some (.tup [.int (g e.1 e.2).num, .int (g e.1 e.2).den])) (fun H H' i v k r => ?_) nD (fun _ z => z.elim) (by rw [nats_len]; omega)
      (fun H' k' => ⟨.of (no_same k' _ _ el3), .of (no_same k' _ _ e3)⟩) ?_ ?_
    · obtain ⟨p, rfl, ne, e, he, hp⟩ := r
      exact ⟨p, rfl, ne, e, he, k _ _ (fun z => z.elim id ne) hp⟩
    · rintro i x H4 _ Q' hi k4 nD4 ⟨T, x1, y1, rfl, nT, rfl, ex1, ey1⟩ q'
      obtain ⟨e, he, b1, b2, rfl, rfl⟩ := at2 i _ _ ex1 ey1
      have s5 : Same H4 (upd H4 T (.tup [.int (e.1 : Nat), .int (e.2 : Nat)])) := same_new nT
      obtain ⟨r, p, g1, ys, g2, g3, g4, g5⟩ := cell' ((s13.trans (no_same k4)).trans s5) e.1 e.2 b1 b2
      have ea4 := ((s13.trans (no_same k4)).trans s5) _ _ ea
      refine ⟨T, _, rfl, .of upd_same, rfl, _, _, rfl, _, _, rfl, rfl, rfl, ?_⟩
      refine ⟨_, rfl, _, rfl, a, xs, (e.1 : Int), _, rfl, rfl, .of ea4, atI_nat g1, _, rfl, r, ys, (e.2 : Int), _, rfl, rfl, .of g2, atI_nat g3, ?_⟩
      refine q' _ _ (Kp.same s5) ⟨p, rfl, fun z => ?_, e, he, g4⟩
      rw [z] at g5
      exact g5 (s13.free nD)
    rintro H4 acc k4 eD hla ha
    have s4 := no_same k4
    have s14 := s13.trans s4
    have row1 : ∀ {H'}, Same H4 H' → FrRow K H' acc ((stp u).map fun p => g p.1 p.2) := fun s => ⟨by rw [hla, nats_len, List.length_map, sl], fun i v q e1 e2 => by
      obtain ⟨p, rfl, _, e, he, hp⟩ := ha i v e1
      rw [List.getElem?_map, he] at e2
      rw [← Option.some.inj e2]
      exact ⟨p, rfl, .of (s _ _ hp)⟩⟩
    -- and the other way round
    refine ⟨_, rfl, _, rfl, l, eA, _, _, rfl, .inr ⟨.of (s4 _ _ el3), .of (s4 _ _ e3), fun D2 nD2 => ?_⟩⟩
    refine lc_rel (walk_zipT (K := K) ll) No (fun H' i y => ∃ p, y = .ref p ∧ p ≠ D2 ∧ ∃ e, (stp u)[i]? = some e ∧ H' p = some (.tup [.int (g e.2 e.1).num, .int (g e.2 e.1).den])) (fun H H' i v k r => ?_) nD2 (fun _ z => z.elim) (by rw [nats_len]; omega)
      (fun H' k' => ⟨.of (no_same k' _ _ (s4 _ _ el3)), .of (no_same k' _ _ (s4 _ _ e3))⟩) ?_ ?_
    · obtain ⟨p, rfl, ne, e, he, hp⟩ := r
      exact ⟨p, rfl, ne, e, he, k _ _ (fun z => z.elim id ne) hp⟩
    · rintro i x H5 _ Q' hi k5 nD4 ⟨T, x1, y1, rfl, nT, rfl, ex1, ey1⟩ q'
      obtain ⟨e, he, b1, b2, rfl, rfl⟩ := at2 i _ _ ex1 ey1
      have s6 : Same H5 (upd H5 T (.tup [.int (e.1 : Nat), .int (e.2 : Nat)])) := same_new nT
      obtain ⟨r, p, g1, ys, g2, g3, g4, g5⟩ := cell' ((s14.trans (no_same k5)).trans s6) e.2 e.1 b2 b1
      have ea4 := ((s14.trans (no_same k5)).trans s6) _ _ ea
      refine ⟨T, _, rfl, .of upd_same, rfl, _, _, rfl, _, _, rfl, rfl, rfl, ?_⟩
      refine ⟨_, rfl, _, rfl, a, xs, (e.2 : Int), _, rfl, rfl, .of ea4, atI_nat g1, _, rfl, r, ys, (e.1 : Int), _, rfl, rfl, .of g2, atI_nat g3, ?_⟩
      refine q' _ _ (Kp.same s6) ⟨p, rfl, fun z => ?_, e, he, g4⟩
      rw [z] at g5
      exact g5 (s14.free nD2)
    rintro H5 acc2 k5 eD2 hla2 ha2
    have s5 := no_same k5
    have s15 := s14.trans s5
    have row2 : ∀ {H'}, Same H5 H' → FrRow K H' acc2 ((stp u).map fun p => g p.2 p.1) := fun s => ⟨by rw [hla2, nats_len, List.length_map, sl], fun i v q e1 e2 => by
      obtain ⟨p, rfl, _, e, he, hp⟩ := ha2 i v e1
      rw [List.getElem?_map, he] at e2
      rw [← Option.some.inj e2]
      exact ⟨p, rfl, .of (s _ _ hp)⟩⟩
    have bound : ∀ (g' : Nat × Nat → Rat), (∀ p, p.1 < n → p.2 < n → Bq.Sz 770 (g' p)) → (∀ q ∈ (stp u).map g', Bq.Sz 770 q) ∧ 1 + ((stp u).map g').length * 770 ≤ 9000 := fun g' hg => by
      constructor
      · intro q hq
        obtain ⟨p, hp, rfl⟩ := List.mem_map.mp hq
        have m := stp_mem hp
        exact hg _ (hu _ m.1) (hu _ m.2)
      · rw [List.length_map, sl]
        have : u.length * 770 ≤ 6 * 770 := Nat.mul_le_mul_right _ l6
        omega
    have B1 := bound (fun p => g p.1 p.2) fun p h1 h2 => sz _ _ h1 h2
    have B2 := bound (fun p => g p.2 p.1) fun p h1 h2 => sz _ _ h2 h1
    have e7 : prQ ((stp u).map fun p => g p.2 p.1) = fw (fun x y => g y x) (stp u) := by
      rw [← fw_pr]
    have e6 : prQ ((stp u).map fun p => g p.1 p.2) = fw g (stp u) := fw_pr g _
    generalize hq1 : (stp u).map (fun p => g p.1 p.2) = qs1 at *
    generalize hq2 : (stp u).map (fun p => g p.2 p.1) = qs2 at *
    refine ⟨_, rfl, D, acc, qs1, 770, rfl, .of (s5 _ _ eD), row1 s5, B1.1, B1.2, fun v1 H6 s6 d1 => ?_⟩
    refine ⟨_, rfl, D2, acc2, qs2, 770, rfl, .of (s6 _ _ eD2), row2 s6, B2.1, B2.2, fun v2 H7 s7 d2 => ⟨sz63 (by show 2 ≤ 1000; decide), fun t nt => ?_⟩⟩
    rw [e6] at d1
    rw [e7] at d2
    have s8 : Same H7 (upd H7 t (.tup [v1, v2])) := same_new nt
    refine q _ _ ((((s15.trans s6).trans s7).trans s8)) (.tup (fun z => z (((s15.trans s6).trans s7).free nt)) upd_same (.cons (((d1.weak fun b z => ?_).keep (Kp.same s7)).keep (Kp.same s8)) (.cons ((d2.weak fun b z => ?_).keep (Kp.same s8)) .nil)))
    · exact fun e => z (s15.free e)
    · exact fun e => z ((s15.trans s6).free e)
/-- both products of a ring -/
def spProducts (nb : Nat) : Sp := fun vs H Q _ => ∃ (W W2 : Addr → Prop) (v : V) (n : Nat) (f : Nat → Nat → Rat) (l : Addr) (u : List Nat), vs = [v, .ref l] ∧ Dq W H v (tabD (tabF n f)) ∧ Bd nb (tabD (tabF n f)) ∧ IsWalk (tabD (tabF n f)) ∧ Dq W2 H (.ref l) (natsD u) ∧ RingW n u ∧ u.length ≤ 6 ∧ n ≤ 6 ∧
  (∀ i j, i < n → j < n → Bq.Sz 770 (f i j)) ∧ ∀ v' H', Same H H' → Dq (Old H) H' v' (pairD f u) → Q v' H'
theorem ok_products {nb : Nat} {f : Addr} {fd : FuncData} (F : Fun K "products" "products" sproducts f fd) (M : Mb mg) (Dis_ring : Df P w K mg base 8 "is_ring" ["walk", "value"] (spRing nb)) (Dring_products : Df P w K mg base 3 "ring_products" ["walk", "ring"] spPair) :
    FnOk P w K mg base CX0 9 f fd ["walk", "ring"] (spProducts nb) := by
  refine F.ok cproducts (fun vs H Q E h => ?_) (fun cdv A outer s H vs Q E hr h => ?_)
  · obtain ⟨_, _, v, n, g, l, u, rfl, _⟩ := h
    rfl
  · obtain ⟨W, W2, v, n, g, l, u, rfl, hd, hb, iw, hl, rw, l6, n6, sz, q⟩ := h
    refine ⟨_, (pss_cons (ps_if (pt_not (pt_val (pe_call Dis_ring.G (hr.mono (by first | decide | omega)) rfl Dis_ring.g Dis_ring.kp Dis_ring.b .nil pass0 (pa_cons (pv 0) (pa_cons (pv 1) pa_nil)))))
 (pss_one ps_never)
 pss_nil)
 (pss_one (ps_ret (pe_call Dring_products.G (hr.mono (by first | decide | omega)) rfl Dring_products.g Dring_products.kp Dring_products.b .nil pass0 (pa_cons (pv 0) (pa_cons (pv 1) pa_nil)))))), ?_⟩
    have lt : (tabF n g).length = n := by
      unfold tabF
      simp
    have hln : lnB (natsD u) = true := decide_eq_true (by rw [List.length_map]; omega)
    refine ⟨_, rfl, _, rfl, W, W2, v, .ref l, _, _, rfl, hd, hb, iw, hl, hln, fun H1 b s1 hb1 => ⟨_, rfl, ?_⟩⟩
    rw [lt] at hb1
    obtain rfl := hb1.mpr ⟨u, rfl, rw⟩
    refine ifF (fun z => nomatch z) ?_
    obtain ⟨l', xs, el', _, e, ed⟩ := (hl.keep (Kp.same s1)).tupI
    obtain rfl : l = l' := V.ref.inj el'
    rw [dq_nats ed] at e
    have l3 := rw.l
    exact ⟨_, rfl, _, rfl, W, v, n, g, l, u, rfl, hd.keep (Kp.same s1), e, rw.lt, by omega, l6, n6, sz, fun v' H' s' d' => q v' H' (s1.trans s') (d'.weak fun b z e => z (s1.free e))⟩
end
end Kx
set_option exponentiation.threshold 4000
/-! The law's own rings, around them. -/
namespace Kx
open PySem PySem.Spec PyProof.Rows L2 Bw
abbrev s_law_around : Stmt := topS 47
abbrev n_law_around : List Str := ["going", "loop", "forth", "back", "here", "there"]
theorem c_law_around : FnScope n_law_around ["going", "loop"] (defScope s_law_around) :=
  ⟨rfl, rfl, rfl, by decide +kernel, rfl, by decide +kernel, by decide +kernel⟩

theorem fw_take {f : Nat → Nat → Rat} {l : List (Nat × Nat)} {i : Nat} {p : Nat × Nat} (h : l[i]? = some p) : fw f (l.take (i + 1)) = fw f (l.take i) * f p.1 p.2 := by
  rw [List.take_succ, h, fw_app]
  exact congrArg _ (fw_one f p)
theorem fw_sz {f : Nat → Nat → Rat} {n : Nat} : ∀ {l : List (Nat × Nat)}, (∀ p ∈ l, Bq.Sz n (f p.1 p.2)) → Bq.Sz (1 + l.length * n) (fw f l)
  | [], _ => by
    rw [fw, List.length_nil, Nat.zero_mul]
    exact ⟨by decide, by decide⟩
  | p :: l, h => by
    have h1 := (h p List.mem_cons_self).mul (fw_sz fun q hq => h q (List.mem_cons_of_mem _ hq))
    rw [fw]
    refine h1.mono ?_
    rw [List.length_cons, Nat.succ_mul]
    omega
section
variable {P : Program} {w : World} {K : PySem.W.Frag} {mg : Str → Option Value} {base : Heap}
theorem ok_laround {f : Addr} {fd : FuncData} (F : Fun K "_law_around" "_law_around" s_law_around f fd) (M : Mb mg) (Dlaw_times : Df P w K mg base 2 "_law_times" ["here", "there"] (spTimes K)) : FnOk P w K mg base CX0 3 f fd ["going", "loop"] spPair := by
  refine F.ok c_law_around (fun vs H Q E h => ?_) (fun cdv A outer s H vs Q E hr h => ?_)
  · obtain ⟨_, v, n, g, l, u, rfl, _⟩ := h
    rfl
  · obtain ⟨W, v, n, g, l, u, rfl, hd, el, hu, l2, l6, n6, sz, q⟩ := h
    refine ⟨_, (pss_cons (ps_asg (pe_tup (pa_cons (pe_tup (pa_cons pe_int (pa_cons pe_int pa_nil))) (pa_cons (pe_tup (pa_cons pe_int (pa_cons pe_int pa_nil))) pa_nil))) (pg_tup rfl (pgs_cons (pg_name (i := 2) c_law_around.nd rfl (.inl rfl)) (pgs_cons (pg_name (i := 3) c_law_around.nd rfl (.inl rfl)) pgs_nil))))
 (pss_cons (ps_for PassesOwn.never rfl (RZ.pi_zipA (by rfl) M.zip (pa_cons (pv 1) (pa_cons (pe_op op_catA (pe_slice sl_tupA (pv 1) (po_some pe_int) po_none) (pe_slice sl_tupA (pv 1) po_none (po_some pe_int))) pa_nil))) (pg_tup rfl (pgs_cons (pg_name (i := 4) c_law_around.nd rfl (.inl rfl)) (pgs_cons (pg_name (i := 5) c_law_around.nd rfl (.inl rfl)) pgs_nil)))
 (pss_one (ps_par (i := 2) (j := 3) (by rfl) c_law_around.nd rfl rfl (by decide) rfl rfl (pa_cons (pe_call Dlaw_times.G (hr.mono (by first | decide | omega)) rfl Dlaw_times.g Dlaw_times.kp Dlaw_times.b .nil pass0 (pa_cons (pv 2) (pa_cons (pe_ix ix_tup (pe_ix ix_tup (pv 0) (pv 4) (fun _ _ => rfl)) (pv 5) (fun _ _ => rfl)) pa_nil))) (pa_cons (pe_call Dlaw_times.G (hr.mono (by first | decide | omega)) rfl Dlaw_times.g Dlaw_times.kp Dlaw_times.b .nil pass0 (pa_cons (pv 3) (pa_cons (pe_ix ix_tup (pe_ix ix_tup (pv 0) (pv 5) (fun _ _ => rfl)) (pv 4) (fun _ _ => rfl)) pa_nil))) pa_nil)) (by rfl))))
 (pss_one (ps_ret (pe_tup (pa_cons (pv 2) (pa_cons (pv 3) pa_nil))))))), ?_⟩
    obtain ⟨a, xs, rfl, na, ea, ex⟩ := hd.tupI
    have xl : xs.length = n := by
      have := ex.length
      unfold tabF at this
      simpa using this
    have cell : ∀ {H' : Hp}, Same H H' → ∀ i j, i < n → j < n → ∃ r p, xs[i]? = some (.ref r) ∧ ∃ ys, H' r = some (.tup ys) ∧ ys[j]? = some (.ref p) ∧ H' p = some (.tup [.int (g i j).num, .int (g i j).den]) := fun s i j hi hj => by
      have e1 : xs[i]? = some (xs[i]'(by omega)) := List.getElem?_eq_getElem (by omega)
      obtain ⟨_, dy⟩ := tab_at ex e1
      obtain ⟨r, ys, e2, nb, eb, er⟩ := dy.tupI
      have yl : ys.length = n := by
        have := er.length
        simpa using this
      have e3 : ys[j]? = some (ys[j]'(by omega)) := List.getElem?_eq_getElem (by omega)
      obtain ⟨_, dv⟩ := row_at er e3
      obtain ⟨p, e4, _, ep⟩ := dv.frI
      rw [e2] at e1
      rw [e4] at e3
      exact ⟨r, p, e1, ys, s _ _ eb, e3, s _ _ ep⟩
    have sl : (stp u).length = u.length := by
      unfold stp
      rw [List.length_zip, rot_len, Nat.min_self]
    have at2 : ∀ (i : Nat) x y, (nats u)[i]? = some x → (nats (rot u))[i]? = some y → ∃ e, (stp u)[i]? = some e ∧ e.1 < n ∧ e.2 < n ∧ x = .int (e.1 : Nat) ∧ y = .int (e.2 : Nat) := fun i x y e1 e2 => by
      obtain ⟨b, h1, rfl⟩ := nats_get e1
      obtain ⟨c, h2, rfl⟩ := nats_get e2
      have e : (stp u)[i]? = some (b, c) := by
        unfold stp
        exact List.getElem?_zip_eq_some.mpr ⟨h1, h2⟩
      have m := stp_mem (List.mem_of_getElem? e)
      exact ⟨(b, c), e, hu _ m.1, hu _ m.2, rfl, rfl⟩
    -- forth, back
    refine ⟨sz63 (by show 2 ≤ 1000; decide), fun t1 nt1 => ⟨sz63 (by show 2 ≤ 1000; decide), fun t2 nt2 => ⟨sz63 (by show 2 ≤ 1000; decide), fun t3 nt3 => ⟨t3, _, rfl, .of upd_same, rfl, _, _, rfl, _, _, rfl, rfl, ?_⟩⟩⟩⟩
    have s0 : Same H (upd (upd (upd H t1 (.tup [.int 1, .int 1])) t2 (.tup [.int 1, .int 1])) t3 (.tup [.ref t1, .ref t2])) := ((same_new nt1).trans (same_new nt2)).trans (same_new nt3)
    have f1 : Dq (Old H) (upd (upd (upd H t1 (.tup [.int 1, .int 1])) t2 (.tup [.int 1, .int 1])) t3 (.tup [.ref t1, .ref t2])) (.ref t1) (frD 1) := fr_dq (fun z => z nt1) (((same_new nt2).trans (same_new nt3)) _ _ upd_same)
    have f2 : Dq (Old H) (upd (upd (upd H t1 (.tup [.int 1, .int 1])) t2 (.tup [.int 1, .int 1])) t3 (.tup [.ref t1, .ref t2])) (.ref t2) (frD 1) := fr_dq (fun z => z ((same_new nt1).free nt2)) ((same_new nt3) _ _ upd_same)
    generalize upd (upd (upd H t1 (.tup [.int 1, .int 1])) t2 (.tup [.int 1, .int 1])) t3 (.tup [.ref t1, .ref t2]) = H0 at s0 f1 f2 ⊢
    have el0 := s0 _ _ el
    -- the steps
    refine ⟨_, rfl, _, rfl, _, rfl, ?_⟩
    dsimp only [tNoPart]
    refine sl_by el0 fun p1 H1 s1 e1 _ => ⟨_, rfl, _, rfl, ?_⟩
    refine sl_by (s1 _ _ el0) fun p2 H2 s2 e2 _ => ?_
    have c1 : cutV (nats u) (some 1) none = (nats u).drop 1 := cut_from (n := 1) (by rw [nats_len]; omega)
    have c2 : cutV (nats u) none (some 1) = (nats u).take 1 := cut_to (n := 1) (by rw [nats_len]; omega)
    rw [c1] at e1
    rw [c2] at e2
    refine cat_by (s2 _ _ e1) e2 (by rw [List.length_drop, List.length_take, nats_len]; omega) fun eA H3 s3 e3 _ => ?_
    have er : (nats u).drop 1 ++ (nats u).take 1 = nats (rot u) := by
      unfold nats rot
      rw [List.map_append, List.map_drop, List.map_take]
    rw [er] at e3
    have s03 := (s1.trans s2).trans s3
    have el3 := s03 _ _ el0
    have ll : (nats u).length = (nats (rot u)).length := by rw [nats_len, nats_len, rot_len]
    refine ⟨l, eA, _, _, rfl, .inr ⟨.of el3, .of e3, ?_⟩⟩
    refine RZ.for_zipT (K := K) (a := l) (b := eA) (D := { nx := tRet (tTup (tCons (tVar 2) (tCons (tVar 3) tNil))) { nx := fun x H' => Q V.non H', rt := Q }, rt := Q }) ll (fun i σ H' => ∃ v1 v2 y4 y5, σ = [some (.ref a), some (.ref l), some v1, some v2, y4, y5] ∧ Same H3 H' ∧ Dq (Old H) H' v1 (frD (fw g ((stp u).take i))) ∧ Dq (Old H) H' v2 (frD (fw (fun x y => g y x) ((stp u).take i))))
      ⟨_, _, _, _, rfl, .refl _, by rw [List.take_zero, fw]; exact f1.keep (Kp.same s03), by rw [List.take_zero, fw]; exact f2.keep (Kp.same s03)⟩ (fun i σ H' ⟨_, _, _, _, _, s, _⟩ => ⟨.of (s _ _ el3), .of (s _ _ e3)⟩) ?_ ?_
    · rintro i x y T σ H4 ex1 ey1 ⟨v1, v2, y4, y5, rfl, s4, d1, d2⟩ nT
      obtain ⟨e, he, b1, b2, rfl, rfl⟩ := at2 i _ _ ex1 ey1
      have s5 : Same H4 (upd H4 T (.tup [.int (e.1 : Nat), .int (e.2 : Nat)])) := same_new nT
      have eT : (upd H4 T (.tup [.int (e.1 : Nat), .int (e.2 : Nat)])) T = some (.tup [.int (e.1 : Nat), .int (e.2 : Nat)]) := upd_same
      generalize upd H4 T (.tup [.int (e.1 : Nat), .int (e.2 : Nat)]) = H5 at s5 eT ⊢
      have s35 := s4.trans s5
      have sA := (s0.trans s03).trans s35
      obtain ⟨r, p, g1, ys, g2, g3, g4⟩ := cell sA e.1 e.2 b1 b2
      have ea5 := sA _ _ ea
      have il : i < (stp u).length := (List.getElem?_eq_some_iff.mp he).1
      have tl : ((stp u).take i).length ≤ 5 := by
        rw [List.length_take]
        omega
      have z1 : Bq.Sz (1 + ((stp u).take i).length * 770) (fw g ((stp u).take i)) := fw_sz fun p hp => by
        have m := stp_mem (List.mem_of_mem_take hp)
        exact sz _ _ (hu _ m.1) (hu _ m.2)
      have z2 : Bq.Sz (1 + ((stp u).take i).length * 770) (fw (fun x y => g y x) ((stp u).take i)) := fw_sz fun p hp => by
        have m := stp_mem (List.mem_of_mem_take hp)
        exact sz _ _ (hu _ m.2) (hu _ m.1)
      have tm : ((stp u).take i).length * 770 ≤ 5 * 770 := Nat.mul_le_mul_right _ tl
      generalize ((stp u).take i).length * 770 = N at z1 z2 tm
      refine ⟨T, _, rfl, .of eT, rfl, _, _, rfl, _, _, rfl, rfl, ?_⟩
      refine ⟨_, rfl, _, rfl, _, rfl, a, xs, (e.1 : Int), _, rfl, rfl, .of ea5, atI_nat g1, _, rfl, r, ys, (e.2 : Int), _, rfl, rfl, .of g2, atI_nat g3, ?_⟩
      refine ⟨v1, .ref p, _, _, 1 + N, 770, rfl, (d1.keep (Kp.same s5)).fr, ⟨p, rfl, .of g4⟩, z1, sz _ _ b1 b2, by omega, fun b nb => ?_⟩
      have s6 : Same H5 (upd H5 b (.tup [.int (fw g ((stp u).take i) * g e.1 e.2).num, .int (fw g ((stp u).take i) * g e.1 e.2).den])) := same_new nb
      have fb : Dq (Old H) (upd H5 b (.tup [.int (fw g ((stp u).take i) * g e.1 e.2).num, .int (fw g ((stp u).take i) * g e.1 e.2).den])) (.ref b) (frD (fw g ((stp u).take i) * g e.1 e.2)) := fr_dq (fun z => z (sA.free nb)) upd_same
      generalize upd H5 b (.tup [.int (fw g ((stp u).take i) * g e.1 e.2).num, .int (fw g ((stp u).take i) * g e.1 e.2).den]) = H6 at s6 fb ⊢
      have sB := sA.trans s6
      obtain ⟨r2, p2, k1, ys2, k2, k3, k4⟩ := cell sB e.2 e.1 b2 b1
      refine ⟨_, rfl, _, rfl, _, rfl, a, xs, (e.2 : Int), _, rfl, rfl, .of (s6 _ _ ea5), atI_nat k1, _, rfl, r2, ys2, (e.1 : Int), _, rfl, rfl, .of k2, atI_nat k3, ?_⟩
      refine ⟨v2, .ref p2, _, _, 1 + N, 770, rfl, (d2.keep (Kp.same (s5.trans s6))).fr, ⟨p2, rfl, .of k4⟩, z2, sz _ _ b2 b1, by omega, fun c nc => ⟨_, _, rfl, ?_⟩⟩
      have s7 : Same H6 (upd H6 c (.tup [.int (fw (fun x y => g y x) ((stp u).take i) * g e.2 e.1).num, .int (fw (fun x y => g y x) ((stp u).take i) * g e.2 e.1).den])) := same_new nc
      refine ⟨_, _, _, _, rfl, (s35.trans s6).trans s7, ?_, ?_⟩
      · rw [fw_take he]
        exact fb.keep (Kp.same s7)
      · rw [fw_take he]
        exact fr_dq (fun z => z (sB.free nc)) upd_same
    · rintro σ H4 ⟨v1, v2, y4, y5, rfl, s4, d1, d2⟩
      have et : (nats u).length = (stp u).length := by rw [nats_len, sl]
      rw [et, List.take_length] at d1 d2
      refine ⟨_, rfl, _, rfl, sz63 (by show 2 ≤ 1000; decide), fun t nt => ?_⟩
      have s5 : Same H4 (upd H4 t (.tup [v1, v2])) := same_new nt
      exact q _ _ (((s0.trans s03).trans s4).trans s5) (.tup (fun z => z (((s0.trans s03).trans s4).free nt)) upd_same (.cons (d1.keep (Kp.same s5)) (.cons (d2.keep (Kp.same s5)) .nil)))
end
end Kx
set_option exponentiation.threshold 4000
/-! The law's own list of rings. -/
namespace Kx
open PySem PySem.Spec PyProof.Rows L2 Bw
abbrev s_law_rings : Stmt := topS 46
abbrev n_law_rings : List Str := ["many", "found", "ways", "first", "turn", "longer", "way", "there"]
theorem c_law_rings : FnScope n_law_rings ["many"] (defScope s_law_rings) :=
  ⟨rfl, rfl, rfl, by decide +kernel, rfl, by decide +kernel, by decide +kernel⟩

def candN (n : Nat) (w : List Nat) (i : Nat) : List (List Nat) := (((List.range i).map fun j => w.headD 0 + 1 + j).filter fun j => decide (j ∉ w)).map fun j => w ++ [j]
def extsN (n : Nat) (w : List Nat) : List (List Nat) := candN n w (n - (w.headD 0 + 1))
def waysN (n : Nat) : Nat → List (List Nat)
  | 0 => (List.range n).map fun j => [j]
  | t + 1 => (waysN n t).flatMap (extsN n)
def okN (w : List Nat) : Bool := decide (2 < w.length) && decide (w.getD 1 0 < w.getD (w.length - 1) 0)
def fndN (n : Nat) : Nat → List (List Nat)
  | 0 => []
  | t + 1 => fndN n t ++ (waysN n (t + 1)).filter okN
def ringB (n : Nat) (w : List Nat) : Bool := decide (3 ≤ w.length) && w.all (fun x => decide (x < n)) && decide w.Nodup && w.all (fun x => decide (w.headD 0 ≤ x)) && decide (w.getD 1 0 < w.getD (w.length - 1) 0) && decide (w.length ≤ 6)
def wayB (n : Nat) (w : List Nat) : Bool := decide (1 ≤ w.length) && decide (w.headD 0 < n) && decide (w.length ≤ 6)
theorem fnd_ok : ∀ n, n < 7 → ∀ w ∈ fndN n (n - 1), ringB n w = true := by decide +kernel
theorem fnd_len : ∀ n, n < 7 → ∀ t, t < 7 → (fndN n t).length ≤ 200 := by decide +kernel
theorem ways_ok : ∀ n, n < 7 → ∀ t, t < 6 → (waysN n t).length ≤ 200 ∧ ∀ w ∈ waysN n t, wayB n w = true := by decide +kernel
theorem ring_of {n : Nat} {w : List Nat} (h : ringB n w = true) : RingW n w ∧ w.length ≤ 6 := by
  unfold ringB at h
  simp only [Bool.and_eq_true, decide_eq_true_eq, List.all_eq_true] at h
  obtain ⟨⟨⟨⟨⟨h1, h2⟩, h3⟩, h4⟩, h5⟩, h6⟩ := h
  exact ⟨⟨⟨h1, h2, h3, h4⟩, h5⟩, h6⟩
/-- rows of numbers, a tuple each -/
def TupN (H : Hp) (ts : List Addr) (ws : List (List Nat)) : Prop := ts.length = ws.length ∧ ∀ (i : Nat) t w, ts[i]? = some t → ws[i]? = some w → H t = some (.tup (nats w))
theorem TupN.mono {H H' : Hp} {ts : List Addr} {ws : List (List Nat)} (h : TupN H ts ws) (k : ∀ t xs, H t = some (.tup xs) → H' t = some (.tup xs)) : TupN H' ts ws := ⟨h.1, fun i t w h1 h2 => k _ _ (h.2 i t w h1 h2)⟩
theorem TupN.app {H : Hp} {ts us : List Addr} {ws vs : List (List Nat)} (h : TupN H ts ws) (k : TupN H us vs) : TupN H (ts ++ us) (ws ++ vs) := by
  have h1 := h.1
  have k1 := k.1
  refine ⟨by rw [List.length_append, List.length_append]; omega, fun i t w e1 e2 => ?_⟩
  by_cases c : i < ts.length
  · rw [List.getElem?_append_left c] at e1
    rw [List.getElem?_append_left (by omega)] at e2
    exact h.2 i t w e1 e2
  · rw [List.getElem?_append_right (by omega)] at e1
    rw [List.getElem?_append_right (by omega), ← h1] at e2
    exact k.2 _ t w e1 e2
theorem TupN.one {H : Hp} {t : Addr} {w : List Nat} (e : H t = some (.tup (nats w))) : TupN H [t] [w] := ⟨rfl, fun i t' w' h1 h2 => by
  match i, h1, h2 with
  | 0, h1, h2 =>
    have e1 : t = t' := by simpa using h1
    have e2 : w = w' := by simpa using h2
    rw [← e1, ← e2]
    exact e
  | i + 1, h1, _ => simp at h1⟩
theorem TupN.nil {H : Hp} : TupN H [] [] := ⟨rfl, fun i t w e => by simp at e⟩
theorem cand_succ (n : Nat) (w : List Nat) (i : Nat) : candN n w (i + 1) = candN n w i ++ (if w.headD 0 + 1 + i ∉ w then [w ++ [w.headD 0 + 1 + i]] else []) := by
  unfold candN
  rw [List.range_succ, List.map_append, List.filter_append, List.map_append]
  congr 1
  simp only [List.map_cons, List.map_nil, List.filter_cons, List.filter_nil]
  by_cases c : w.headD 0 + 1 + i ∉ w
  · rw [if_pos (decide_eq_true c), if_pos c]
    rfl
  · rw [if_neg (by simpa using c), if_neg c]
    rfl
theorem flat_take {α : Type} {f : α → List α} {l : List α} {i : Nat} {x : α} (h : l[i]? = some x) : (l.take (i + 1)).flatMap f = (l.take i).flatMap f ++ f x := by
  rw [List.take_succ, h, List.flatMap_append]
  simp
theorem cand_le (n : Nat) (w : List Nat) (i : Nat) : (candN n w i).length ≤ i := by
  unfold candN
  rw [List.length_map]
  refine Nat.le_trans (List.length_filter_le _ _) ?_
  simp
section
variable {P : Program} {w : World} {K : PySem.W.Frag} {mg : Str → Option Value} {base : Heap}
/-- all rings of so many places -/
def spRings : Sp := fun vs H Q _ => ∃ (n : Nat), vs = [.int (n : Nat)] ∧ 1 ≤ n ∧ n ≤ 6 ∧ ∀ (H' : Hp) (fA : Addr) (ts : List Addr), Same H H' → H fA = none → H' fA = some (.lst (ts.map V.ref)) → TupN H' ts (fndN n (n - 1)) → Q (.ref fA) H'
theorem ok_lrings {f : Addr} {fd : FuncData} (F : Fun K "_law_rings" "_law_rings" s_law_rings f fd) (M : Mb mg) : FnOk P w K mg base CX0 1 f fd ["many"] spRings := by
  refine F.ok c_law_rings (fun vs H Q E h => ?_) (fun cdv A outer s H vs Q E hr h => ?_)
  · obtain ⟨n, rfl, _⟩ := h
    rfl
  · obtain ⟨n, rfl, n1, n6, q⟩ := h
    refine ⟨_, (pss_cons (ps_par (i := 1) (j := 2) (by rfl) c_law_rings.nd rfl rfl (by decide) rfl rfl (pa_cons (pe_lst pa_nil) (pa_cons (pe_lc (own := [("first", 3)]) rfl c_law_rings.nd (pi_range1 (by rfl) M.range (pa_cons (pv 0) pa_nil)) (blkOk_by (own := [("first", 3)]) (N := n_law_rings) (sc := defScope s_law_rings) (by decide +kernel)) (fun _ _ _ _ _ => (pg_name (i := 3) c_law_rings.nd rfl (.inl rfl))) (fun _ _ _ _ _ => pts_nil) (fun _ _ _ _ _ => (pe_tup (pa_cons (pv 3) pa_nil)))) pa_nil)) (by rfl))
 (pss_cons (ps_for PassesOwn.never rfl (pi_range1 (by rfl) M.range (pa_cons (pe_op op_sub (pv 0) pe_int) pa_nil)) (pg_name (i := 4) c_law_rings.nd rfl (.inl rfl))
 (pss_cons (ps_set (i := 5) c_law_rings.nd rfl (.inl rfl) (pe_lst pa_nil))
 (pss_cons (ps_for PassesOwn.never rfl (pi_list (pv 2)) (pg_name (i := 6) c_law_rings.nd rfl (.inr rfl))
 (pss_one (ps_set (i := 5) c_law_rings.nd rfl (.inl rfl) (pe_op op_cat (pv 5) (pe_lc (own := [("there", 7)]) rfl c_law_rings.nd (pi_range2 (by rfl) M.range (pa_cons (pe_op op_add (pe_ix ix_tup (pv 6) pe_int (fun _ _ => rfl)) pe_int) (pa_cons (pv 0) pa_nil))) (blkOk_by (own := [("there", 7)]) (N := n_law_rings) (sc := defScope s_law_rings) (by decide +kernel)) (fun _ _ _ _ _ => (pg_name (i := 7) c_law_rings.nd rfl (.inl rfl))) (fun _ _ _ _ _ => (pts_one (pt_cmpR (op_notInK (K := K) rfl) (pv 7) (pv 6) (by rfl)))) (fun _ _ _ _ _ => (pe_op (op_catAK (K := K) rfl) (pv 6) (pe_tup (pa_cons (pv 7) pa_nil)))))))))
 (pss_cons (ps_set (i := 2) c_law_rings.nd rfl (.inl rfl) (pv 5))
 (pss_one (ps_set (i := 1) c_law_rings.nd rfl (.inl rfl) (pe_op op_cat (pv 1) (pe_lc (own := [("way", 6)]) rfl c_law_rings.nd (pi_list (pv 2)) (blkOk_by (own := [("way", 6)]) (N := n_law_rings) (sc := defScope s_law_rings) (by decide +kernel)) (fun _ _ _ _ _ => (pg_name (i := 6) c_law_rings.nd rfl (.inl rfl))) (fun _ _ _ _ _ => (pts_one (PW.pt (pw_and (pt_cmpR op_gt (pe_callB (id := "len") (call_lenK (K := K) rfl) (by rfl) M.len (by decide +kernel) (pa_cons (pv 6) pa_nil)) pe_int (nomark _)) (pw_and1 (pt_cmpR op_lt (pe_ix (ix_tupK (K := K) rfl) (pv 6) pe_int (fun _ _ => rfl)) (pe_ix (ix_tupK (K := K) rfl) (pv 6) (pe_un un_neg pe_int) (fun _ _ => rfl)) (nomark _))))))) (fun _ _ _ _ _ => (pv 6))))))))))
 (pss_one (ps_ret (pv 1))))), ?_⟩
    refine ⟨Nat.zero_le _, fun fA nf => ?_⟩
    refine ⟨_, rfl, _, rfl, by omega, by omega, fun D nD => ?_⟩
    have W0 := ways_ok n (by omega) 0 (by omega)
    refine lc_it (walk_range (lo := 0) (n := n)) (fun i H' => Same (upd H fA (.lst [])) H' ∧ ∃ ts, H' D = some (.lst (ts.map V.ref)) ∧ TupN H' ts ((List.range i).map fun j => [j]))
      ⟨same_new nD, [], upd_same, TupN.nil⟩ (fun i H _ p => trivial) ?_ ?_
    · rintro i x _ H1 hi ⟨s1, ts, eD, tp⟩ ⟨rfl, rfl⟩
      have e0 : (0 : Int) + ((i : Nat) : Int) = ((i : Nat) : Int) := by omega
      dsimp only
      rw [e0]
      refine ⟨rfl, ?_⟩
      unfold tYes
      refine ifT rfl ?_
      refine ⟨_, rfl, sz63 (by show 1 ≤ 1000; decide), fun t nt => ?_⟩
      have s2 : Same H1 (upd H1 t (.tup [.int (i : Nat)])) := same_new nt
      have et : (upd H1 t (.tup [.int (i : Nat)])) t = some (.tup (nats [i])) := upd_same
      generalize upd H1 t (.tup [.int (i : Nat)]) = H2 at s2 et ⊢
      have eD2 := s2 _ _ eD
      have nt2 : ∀ xs, H2 D ≠ some (.tup xs) := fun xs => by
        rw [eD2]
        exact fun z => nomatch z
      have tl : ts.length = i := by
        have := tp.1
        simpa using this
      refine ⟨_, eD2, by rw [List.length_map]; exact sz63' (by omega), same_mut (s1.trans s2) nD, ts ++ [t], by rw [upd_same, List.map_append]; rfl, ?_⟩
      rw [List.range_succ, List.map_append]
      exact (((tp.mono fun t xs e => s2 _ _ e).app (TupN.one et)).mono (tup_frame nt2))
    rintro H1 ⟨s1, ts, eD, tp⟩
    have s01 := (same_new (o := .lst []) nf).trans s1
    have ef : H1 fA = some (.lst []) := s1 _ _ upd_same
    refine ⟨_, _, rfl, _, rfl, _, _, rfl, rfl, _, rfl, by omega, by omega, ?_⟩
    have et : ((n : Int) - 1).toNat = n - 1 := by omega
    rw [et]
    refine for_range (lo := 0) (n := n - 1) (fun t σ H' => ∃ F Wd fs ws y4 y5 y6, σ = [some (.int (n : Nat)), some (.ref F), some (.ref Wd), none, y4, y5, y6, none] ∧ Same H H' ∧ H F = none ∧ H' F = some (.lst (fs.map V.ref)) ∧ TupN H' fs (fndN n t) ∧ H' Wd = some (.lst (ws.map V.ref)) ∧ TupN H' ws (waysN n t))
      ⟨fA, D, [], ts, _, _, _, rfl, s01, nf, ef, TupN.nil, eD, tp⟩ ?_ ?_
    · clear ef eD tp s01 s1 nD nf W0
      rintro t σ H2 ht ⟨F, Wd, fs, ws, y4, y5, y6, rfl, s2, F0, eF, tf, eW, tw⟩
      have e0 : (0 : Int) + ((t : Nat) : Int) = ((t : Nat) : Int) := by omega
      rw [e0]
      have Wt := ways_ok n (by omega) t (by omega)
      have Wt1 := ways_ok n (by omega) (t + 1) (by omega)
      have Ft := fnd_len n (by omega) t (by omega)
      have Ft1 := fnd_len n (by omega) (t + 1) (by omega)
      refine ⟨Nat.zero_le _, fun L nL => ?_⟩
      have sL : Same H2 (upd H2 L (.lst [])) := same_new nL
      have eL : (upd H2 L (.lst [])) L = some (.lst []) := upd_same
      generalize upd H2 L (.lst []) = H3 at sL eL ⊢
      have wl := tw.1
      refine ⟨_, rfl, Wd, rfl, ⟨_, .of (sL _ _ eW)⟩, for_list (K := K) (a := Wd) (xs := ws.map V.ref)
        (fun k σ H' => ∃ L ls y6, σ = [some (.int (n : Nat)), some (.ref F), some (.ref Wd), none, some (.int (t : Nat)), some (.ref L), y6, none] ∧ Same H3 H' ∧ H' L = some (.lst (ls.map V.ref)) ∧ TupN H' ls (((waysN n t).take k).flatMap (extsN n)))
        ⟨L, [], _, rfl, .refl _, eL, TupN.nil⟩ (fun i σ H' _ ⟨_, _, _, _, s, _⟩ => .of (s _ _ (sL _ _ eW))) ?_ ?_⟩
      · rintro k x σ H4 hk ⟨L, ls, y6, rfl, s4, eL, tl⟩
        obtain ⟨tw0, hw, rfl⟩ := map_some hk
        have kl : k < (waysN n t).length := by
          have := (List.getElem?_eq_some_iff.mp hw).1
          omega
        have ew : (waysN n t)[k]? = some (waysN n t)[k] := List.getElem?_eq_getElem kl
        have wb := Wt.2 _ (List.mem_of_getElem? ew)
        have lz : (((waysN n t).take k).flatMap (extsN n)).length + (extsN n (waysN n t)[k]).length ≤ 200 := by
          have h1 := Wt1.1
          have h2 : waysN n (t + 1) = ((waysN n t).take (k + 1)).flatMap (extsN n) ++ ((waysN n t).drop (k + 1)).flatMap (extsN n) := by
            rw [← List.flatMap_append, List.take_append_drop]
            rfl
          rw [h2, flat_take ew, List.length_append, List.length_append] at h1
          omega
        have ft := flat_take (f := extsN n) ew
        generalize (waysN n t)[k] = u at ew wb lz ft
        have etw := (sL.trans s4) _ _ (tw.2 k tw0 u hw ew)
        unfold wayB at wb
        simp only [Bool.and_eq_true, decide_eq_true_eq] at wb
        obtain ⟨⟨u1, u2⟩, u6⟩ := wb
        have e1 : (nats u)[0]? = some (.int (u.headD 0 : Nat)) := by
          cases u with
          | nil => simp at u1
          | cons a l => rfl
        refine ⟨_, rfl, _, rfl, tw0, _, 0, _, rfl, rfl, .of etw, atI_nat (j := 0) e1, _, _, rfl, rfl, _, rfl, _, _, rfl, ⟨by omega, by omega, by omega, by omega⟩, fun D nD => ?_⟩
        have et2 : ((n : Int) - (((u.headD 0 : Nat) : Int) + 1)).toNat = n - (u.headD 0 + 1) := by omega
        rw [et2]
        refine lc_it (walk_range (lo := ((u.headD 0 : Nat) : Int) + 1) (n := n - (u.headD 0 + 1))) (fun i H' => Same H4 H' ∧ ∃ ts, H' D = some (.lst (ts.map V.ref)) ∧ TupN H' ts (candN n u i))
          ⟨same_new nD, [], upd_same, TupN.nil⟩ (fun i H _ p => trivial) ?_ ?_
        · rintro i x _ H5 hi ⟨s5, ts5, eD5, tp5⟩ ⟨rfl, rfl⟩
          have ee : ((u.headD 0 : Nat) : Int) + 1 + ((i : Nat) : Int) = ((u.headD 0 + 1 + i : Nat) : Int) := by omega
          dsimp only
          rw [ee]
          have et5 := s5 _ _ etw
          have tl5 : ts5.length ≤ i := by
            rw [tp5.1]
            exact cand_le n u i
          refine ⟨rfl, _, rfl, _, rfl, tw0, nats u, rfl, .inr (.of et5), rfl, flat_nat u, ?_⟩
          have hin : inV (.int ((u.headD 0 + 1 + i : Nat) : Int)) (nats u) = decide (u.headD 0 + 1 + i ∈ u) := inV_nat _ u
          refine ⟨_, rfl, ite2 (fun c => ?_) (fun c => ?_)⟩
          · have c' : (!inV (.int ((u.headD 0 + 1 + i : Nat) : Int)) (nats u)) = true := c
            rw [hin, Bool.not_eq_true', decide_eq_false_iff_not] at c'
            refine ⟨_, rfl, _, rfl, sz63 (by show 1 ≤ 1000; decide), fun t1 nt1 => ?_⟩
            have s6 : Same H5 (upd H5 t1 (.tup [.int ((u.headD 0 + 1 + i : Nat) : Int)])) := same_new nt1
            have e6 : (upd H5 t1 (.tup [.int ((u.headD 0 + 1 + i : Nat) : Int)])) t1 = some (.tup (nats [u.headD 0 + 1 + i])) := upd_same
            generalize upd H5 t1 (.tup [.int ((u.headD 0 + 1 + i : Nat) : Int)]) = H6 at s6 e6 ⊢
            refine cat_by (s6 _ _ et5) e6 (by rw [nats_len, nats_len]; show u.length + 1 ≤ 1000; omega) fun p H7 s7 e7 _ => ?_
            have s57 := s6.trans s7
            have eD7 := s57 _ _ eD5
            have nt7 : ∀ xs, H7 D ≠ some (.tup xs) := fun xs => by
              rw [eD7]
              exact fun z => nomatch z
            have e7' : H7 p = some (.tup (nats (u ++ [u.headD 0 + 1 + i]))) := by
              rw [e7]
              unfold nats
              rw [List.map_append]
            refine ⟨_, eD7, by rw [List.length_map]; exact sz63' (by omega), same_mut (s5.trans s57) nD, ts5 ++ [p], by rw [upd_same, List.map_append]; rfl, ?_⟩
            rw [cand_succ, if_pos c']
            exact ((tp5.mono fun t xs e => s57 _ _ e).app (TupN.one e7')).mono (tup_frame nt7)
          · have c' : ¬ (!inV (.int ((u.headD 0 + 1 + i : Nat) : Int)) (nats u)) = true := c
            rw [hin, Bool.not_eq_true', decide_eq_false_iff_not] at c'
            refine ⟨s5, ts5, eD5, ?_⟩
            rw [cand_succ, if_neg c', List.append_nil]
            exact tp5
        · rintro H5 ⟨s5, ts5, eD5, tp5⟩
          have tl5 := tp5.1
          have tl4 := tl.1
          have hx : candN n u (n - (u.headD 0 + 1)) = extsN n u := rfl
          rw [hx] at tp5 tl5
          refine ⟨L, D, _, _, rfl, rfl, s5 _ _ eL, eD5, sz63 (by rw [List.length_map, List.length_map]; omega), fun m nm => ?_⟩
          have s6 : Same H5 (upd H5 m (.lst (ls.map V.ref ++ ts5.map V.ref))) := same_new nm
          refine ⟨m, ls ++ ts5, _, rfl, (s4.trans s5).trans s6, by rw [upd_same, List.map_append], ?_⟩
          rw [ft]
          exact ((tl.mono fun t xs e => s5 _ _ e).app tp5).mono fun t xs e => s6 _ _ e
      · rintro σ H4 ⟨L, ls, y6, rfl, s4, eL, tl⟩
        have hx : ((waysN n t).take (ws.map V.ref).length).flatMap (extsN n) = waysN n (t + 1) := by
          rw [List.length_map, wl, List.take_length]
          rfl
        rw [hx] at tl
        have ll := tl.1
        have s24 := sL.trans s4
        refine ⟨_, rfl, ?_⟩
        refine ⟨_, rfl, _, rfl, L, rfl, ⟨_, .of eL⟩, fun D nD => lc_it (walk_list (K := K) (a := L) (xs := ls.map V.ref)) (fun i H' => Same H4 H' ∧ ∃ ts, H' D = some (.lst (ts.map V.ref)) ∧ TupN H' ts (((waysN n (t + 1)).take i).filter okN))
          ⟨same_new nD, [], upd_same, TupN.nil⟩ (fun i H _ p => .of (p.1 _ _ eL)) ?_ ?_⟩
        · rintro i x _ H5 hi ⟨s5, ts5, eD5, tp5⟩ ⟨rfl, hx5⟩
          obtain ⟨tw0, hw, rfl⟩ := map_some hx5
          have kl : i < (waysN n (t + 1)).length := by
            have := (List.getElem?_eq_some_iff.mp hw).1
            omega
          have ew : (waysN n (t + 1))[i]? = some (waysN n (t + 1))[i] := List.getElem?_eq_getElem kl
          have tk : (waysN n (t + 1)).take (i + 1) = (waysN n (t + 1)).take i ++ [(waysN n (t + 1))[i]] := by
            rw [List.take_succ, ew]
            rfl
          generalize (waysN n (t + 1))[i] = u at ew tk
          have etw := s5 _ _ (tl.2 i tw0 u hw ew)
          have tl5 : ts5.length ≤ i := by
            rw [tp5.1]
            refine Nat.le_trans (List.length_filter_le _ _) ?_
            rw [List.length_take]
            omega
          have il : i < 200 := by
            have := Wt1.1
            omega
          have nt5 : ∀ xs, H5 D ≠ some (.tup xs) := fun xs => by
            rw [eD5]
            exact fun z => nomatch z
          have no : okN u = false → Same H4 H5 ∧ ∃ ts, H5 D = some (.lst (ts.map V.ref)) ∧ TupN H5 ts (((waysN n (t + 1)).take (i + 1)).filter okN) := fun z => by
            rw [tk, List.filter_append, show [u].filter okN = [] by rw [List.filter_cons, z]; rfl, List.append_nil]
            exact ⟨s5, ts5, eD5, tp5⟩
          refine ⟨rfl, _, rfl, tw0, nats u, rfl, .inr (.of etw), _, _, rfl, rfl, _, rfl, ite2 (fun c => ?_) (fun c => ?_)⟩
          · have c' : 2 < u.length := by
              have := of_decide_eq_true c
              rw [nats_len] at this
              omega
            have e1 : (nats u)[1]? = some (.int (u.getD 1 0 : Nat)) := by
              unfold nats
              rw [List.getElem?_map, List.getD_eq_getElem?_getD, List.getElem?_eq_getElem (by omega)]
              rfl
            have e2 : (nats u)[u.length - 1]? = some (.int (u.getD (u.length - 1) 0 : Nat)) := by
              unfold nats
              rw [List.getElem?_map, List.getD_eq_getElem?_getD, List.getElem?_eq_getElem (by omega)]
              rfl
            refine ⟨_, rfl, tw0, _, 1, _, rfl, rfl, .of etw, atI_nat e1, _, rfl, _, rfl, tw0, _, _, _, rfl, rfl, .of etw, atI_end (by rw [nats_len]; omega) (by rw [nats_len]; exact e2), _, _, rfl, rfl, _, rfl, ite2 (fun d => ?_) (fun d => ?_)⟩
            · have ok : okN u = true := by
                have := of_decide_eq_true d
                unfold okN
                rw [Bool.and_eq_true, decide_eq_true_eq, decide_eq_true_eq]
                exact ⟨c', by omega⟩
              refine ⟨_, rfl, _, eD5, by rw [List.length_map]; exact sz63' (by omega), same_mut s5 nD, ts5 ++ [tw0], by rw [upd_same, List.map_append]; rfl, ?_⟩
              rw [tk, List.filter_append, show [u].filter okN = [u] by rw [List.filter_cons, ok]; rfl]
              exact (tp5.app (TupN.one etw)).mono (tup_frame nt5)
            · refine no ?_
              unfold okN
              rw [Bool.and_eq_false_iff]
              refine .inr (decide_eq_false fun z => d (decide_eq_true ?_))
              omega
          · refine no ?_
            unfold okN
            rw [Bool.and_eq_false_iff]
            refine .inl (decide_eq_false fun z => c (decide_eq_true ?_))
            rw [nats_len]
            omega
        · rintro H5 ⟨s5, ts5, eD5, tp5⟩
          rw [List.length_map, ll, List.take_length] at tp5
          have tl5 := tp5.1
          have tf1 := tf.1
          have fl : fndN n (t + 1) = fndN n t ++ (waysN n (t + 1)).filter okN := rfl
          rw [fl, List.length_append] at Ft1
          have s25 := s24.trans s5
          refine ⟨F, D, _, _, rfl, rfl, s25 _ _ eF, eD5, sz63 (by rw [List.length_map, List.length_map]; omega), fun m nm => ?_⟩
          have s6 : Same H5 (upd H5 m (.lst (fs.map V.ref ++ ts5.map V.ref))) := same_new nm
          refine ⟨m, L, fs ++ ts5, ls, _, _, _, rfl, (s2.trans s25).trans s6, (s2.trans s25).free nm, by rw [upd_same, List.map_append], ?_, s6 _ _ (s5 _ _ eL), tl.mono fun t xs e => s6 _ _ (s5 _ _ e)⟩
          rw [fl]
          exact ((tf.mono fun t xs e => s25 _ _ e).app tp5).mono fun t xs e => s6 _ _ e
    · rintro σ H2 ⟨F, Wd, fs, ws, y4, y5, y6, rfl, s2, F0, eF, tf, eW, tw⟩
      exact ⟨_, rfl, q H2 F fs s2 F0 eF tf⟩
end
end Kx
set_option exponentiation.threshold 4000
/-! The law looks at a ring itself; it draws a loop. -/
namespace Kx
open PySem PySem.Spec PyProof.Rows L2 Bw
abbrev s_law_is_ring : Stmt := topS 52
abbrev n_law_is_ring : List Str := ["many", "thing", "at", "spot"]
theorem c_law_is_ring : FnScope n_law_is_ring ["many", "thing"] (defScope s_law_is_ring) :=
  ⟨rfl, rfl, rfl, by decide +kernel, rfl, by decide +kernel, by decide +kernel⟩

abbrev s_law_loop : Stmt := topS 53
abbrev n_law_loop : List Str := ["well", "many", "left", "found", "turn", "at"]
theorem c_law_loop : FnScope n_law_loop ["well", "many"] (defScope s_law_loop) :=
  ⟨rfl, rfl, rfl, by decide +kernel, rfl, by decide +kernel, by decide +kernel⟩

section
variable {P : Program} {w : World} {K : PySem.W.Frag} {mg : Str → Option Value} {base : Heap}
def spLRing : Sp := fun vs H Q _ => ∃ (W : Addr → Prop) (v : V) (d : PyData) (k : Nat), vs = [.int (k : Nat), v] ∧ Dq W H v d ∧ lnB d = true ∧ ∀ H' b, Same H H' → (b = true ↔ ∃ u, d = natsD u ∧ RingW k u) → Q (.bl b) H'
theorem ok_lring {f : Addr} {fd : FuncData} (F : Fun K "_law_is_ring" "_law_is_ring" s_law_is_ring f fd) (M : Mb mg) (Dlaw_is_number : Df P w K mg base 1 "_law_is_number" ["thing"] (spAsk isNum)) : FnOk P w K mg base CX0 2 f fd ["many", "thing"] spLRing := by
  refine F.ok c_law_is_ring (fun vs H Q E h => ?_) (fun cdv A outer s H vs Q E hr h => ?_)
  · obtain ⟨_, v, d, k, rfl, _⟩ := h
    rfl
  · obtain ⟨W, v, d, k, rfl, hd, hln, q⟩ := h
    refine ⟨_, (pss_cons (ps_if (PW.pt (pw_or (pt_not (pt_val (pe_callB call_isD (by rfl) M.isinstance (by decide +kernel) (pa_cons (pv 1) (pa_cons (pe_bltn (v := .ty "tuple") rfl M.tuple (by decide +kernel) rfl) pa_nil))))) (pw_or1 (pt_cmpR op_lt (pe_callB call_len_seq (by rfl) M.len (by decide +kernel) (pa_cons (pv 1) pa_nil)) pe_int (nomark _)))))
 (pss_one (ps_ret pe_bl))
 pss_nil)
 (pss_cons (ps_for PassesOwn.never rfl (pi_enumT (by rfl) M.enumerate (pa_cons (pv 1) pa_nil)) (pg_tup rfl (pgs_cons (pg_name (i := 2) c_law_is_ring.nd rfl (.inl rfl)) (pgs_cons (pg_name (i := 3) c_law_is_ring.nd rfl (.inl rfl)) pgs_nil)))
 (pss_one (ps_if (PW.pt (pw_or (pt_not (pt_val (pe_call Dlaw_is_number.G (hr.mono (by first | decide | omega)) rfl Dlaw_is_number.g Dlaw_is_number.kp Dlaw_is_number.b .nil pass0 (pa_cons (pv 3) pa_nil)))) (pw_or (pt_cmpR op_lt (pv 3) pe_int (nomark _)) (pw_or (pt_cmpR op_ge (pv 3) (pv 0) (nomark _)) (pw_or1 (pt_cmpR op_in_seq (pv 3) (pe_slice sl_tupA (pv 1) po_none (po_some (pv 2))) (by rfl)))))))
 (pss_one (ps_ret pe_bl))
 pss_nil)))
 (pss_one (ps_ret (pe_and (pe_cmpR op_eq (pe_ix ix_tup (pv 1) pe_int (fun _ _ => rfl)) (pe_callB (cr_minT rfl) (by rfl) M.min (by decide +kernel) (pa_cons (pv 1) pa_nil)) (nomark _)) (pe_one (pe_cmpR op_lt (pe_ix ix_tup (pv 1) pe_int (fun _ _ => rfl)) (pe_ix ix_tup (pv 1) (pe_un un_neg pe_int) (fun _ _ => rfl)) (nomark _)))))))), ?_⟩
    refine ⟨_, rfl, W, v, d, "tuple", _, rfl, hd, kit_tup d, _, rfl, ?_⟩
    cases hd with
    | tup na ea el =>
      rename_i a xs ds
      have hl := el.length
      have hln' : ds.length ≤ 100 := of_decide_eq_true hln
      refine ifF (fun z => nomatch z) ?_
      refine ⟨_, rfl, a, xs, rfl, .inr (.of ea), _, _, rfl, rfl, _, rfl, ite2 (fun c => ?_) (fun c => ?_)⟩
      · refine q H false (.refl H) ⟨(fun z => nomatch z), fun ⟨u, e, wu⟩ => ?_⟩
        have h1 := wu.l
        have h2 : ds.length = u.length := by
          have := congrArg (fun d => match d with | .tuple l => l.length | _ => 0) e
          simpa [natsD] using this
        have h3 := of_decide_eq_true c
        omega
      have c3 : 3 ≤ xs.length := by
        simp at c
        omega
      -- what stands at i, if it is a ring
      have atR : ∀ u, PyData.tuple ds = natsD u → ∀ (i : Nat) d, ds[i]? = some d → ∃ x, u[i]? = some x ∧ d = .int (x : Nat) := fun u e i d hi => by
        unfold natsD at e
        simp only [PyData.tuple.injEq] at e
        rw [e, List.getElem?_map] at hi
        cases z : u[i]? with
        | none =>
          rw [z] at hi
          cases hi
        | some x =>
          rw [z] at hi
          exact ⟨x, rfl, (Option.some.inj hi).symm⟩
      refine ⟨_, rfl, a, xs, rfl, .of ea, for_it (walk_enumT (K := K) (a := a) (xs := xs))
        (fun i σ H' => ∃ y2 y3 u, σ = [some (.int (k : Nat)), some (.ref a), y2, y3] ∧ Same H H' ∧ u.length = i ∧ ds.take i = (u.map fun x : Nat => PyData.int (x : Nat)) ∧ (∀ x ∈ u, x < k) ∧ u.Nodup)
        ⟨_, _, [], rfl, .refl _, rfl, by simp, fun x h => by simp at h, List.nodup_nil⟩ (fun i σ H' _ ⟨_, _, _, _, s, _⟩ => .of (s _ _ ea)) ?_ ?_⟩
      · rintro i x σ H1 _ hi ⟨y2, y3, u, rfl, s1, ul, ut, uk, un⟩ ⟨T, x1, y1, rfl, nT, rfl, ex1, ey1⟩
        obtain rfl := Option.some.inj ex1
        have s2 : Same H1 (upd H1 T (.tup [.int (i : Nat), y1])) := same_new nT
        have eT : (upd H1 T (.tup [.int (i : Nat), y1])) T = some (.tup [.int (i : Nat), y1]) := upd_same
        generalize upd H1 T (.tup [.int (i : Nat), y1]) = H2 at s2 eT ⊢
        have s12 := s1.trans s2
        obtain ⟨d, hdi, dx⟩ := el.at ey1
        have dx2 := dx.keep (Kp.same s12)
        refine ⟨T, _, rfl, .of eT, rfl, _, _, rfl, _, _, rfl, rfl, ?_⟩
        refine ⟨_, rfl, W, y1, d, rfl, dx2, _, rfl, ?_⟩
        cases hn : isNum d with
        | false =>
          refine ifT rfl (q H2 false s12 ⟨(fun z => nomatch z), fun ⟨v, e, wu⟩ => ?_⟩)
          obtain ⟨x, _, rfl⟩ := atR v e i d hdi
          cases hn
        | true =>
          refine ifF (fun z => nomatch z) ?_
          match d, hn with
          | .int sp, _ =>
            obtain rfl := dx2.intI
            have eqs : ∀ v, PyData.tuple ds = natsD v → u = v.take i ∧ ∃ x : Nat, v[i]? = some x ∧ sp = (x : Nat) := fun v e => by
              obtain ⟨x, hx, e2⟩ := atR v e i _ hdi
              refine ⟨?_, x, hx, PyData.int.inj e2⟩
              unfold natsD at e
              simp only [PyData.tuple.injEq] at e
              rw [e, ← List.map_take] at ut
              exact (map_inj (fun a b e => by
                have := PyData.int.inj e
                omega) ut).symm
            refine ⟨_, rfl, _, _, rfl, rfl, _, rfl, ite2 (fun c1 => ?_) (fun c1 => ?_)⟩
            · refine q H2 false s12 ⟨(fun z => nomatch z), fun ⟨v, e, wu⟩ => ?_⟩
              obtain ⟨_, x, _, e2⟩ := eqs v e
              have := of_decide_eq_true c1
              omega
            refine ⟨_, rfl, _, rfl, _, _, rfl, rfl, _, rfl, ite2 (fun c2 => ?_) (fun c2 => ?_)⟩
            · refine q H2 false s12 ⟨(fun z => nomatch z), fun ⟨v, e, wu⟩ => ?_⟩
              obtain ⟨_, x, hx, e2⟩ := eqs v e
              have h1 := of_decide_eq_true c2
              have h2 := wu.lt x (List.mem_of_getElem? hx)
              omega
            obtain ⟨y, rfl⟩ : ∃ y : Nat, sp = (y : Nat) := ⟨sp.toNat, by
              simp at c1
              omega⟩
            have yk : y < k := by
              simp at c2
              omega
            refine ⟨_, rfl, _, rfl, _, rfl, _, rfl, sl_by (s12 _ _ ea) fun p H3 s3 e3 _ => ?_⟩
            rw [cut_to (Nat.le_of_lt hi)] at e3
            have et := dq_nats (by
              have := dqAll_take i el
              rwa [ut] at this)
            rw [et] at e3
            have hin : inV (.int (y : Nat)) (nats u) = decide (y ∈ u) := inV_nat _ u
            refine ⟨p, nats u, rfl, .inr (.of e3), rfl, flat_nat u, _, rfl, ite2 (fun c3 => ?_) (fun c3 => ?_)⟩
            · have c3' : inV (.int (y : Nat)) (nats u) = true := c3
              rw [hin, decide_eq_true_eq] at c3'
              refine q H3 false (s12.trans s3) ⟨(fun z => nomatch z), fun ⟨v, e, wu⟩ => ?_⟩
              obtain ⟨hu, x, hx, e2⟩ := eqs v e
              have exy : x = y := by omega
              subst exy
              rw [hu] at c3'
              have nd := wu.nd
              rw [← List.take_append_drop i v] at nd
              have hd0 : x ∈ v.drop i := by
                rw [List.mem_iff_getElem?]
                exact ⟨0, by rw [List.getElem?_drop]; exact hx⟩
              exact ((List.nodup_append.mp nd).2.2 x c3' x hd0 rfl).elim
            · have c3' : ¬ inV (.int (y : Nat)) (nats u) = true := c3
              rw [hin, decide_eq_true_eq] at c3'
              refine ⟨_, _, u ++ [y], rfl, s12.trans s3, by rw [List.length_append, ul]; rfl, ?_, fun x hx => ?_, ?_⟩
              · rw [List.take_succ, hdi, ut, List.map_append]
                rfl
              · rcases List.mem_append.mp hx with hx | hx
                · exact uk x hx
                · have : x = y := by simpa using hx
                  omega
              · refine List.nodup_append.mpr ⟨un, by simp, fun x hx z hz e => ?_⟩
                have : z = y := by simpa using hz
                rw [e, this] at hx
                exact c3' hx
      · rintro σ H1 ⟨y2, y3, u, rfl, s1, ul, ut, uk, un⟩
        rw [hl, List.take_length] at ut
        rw [hl] at ul
        subst ut
        obtain rfl := dq_nats el
        have ea1 := s1 _ _ ea
        have ea2 := ea1
        rw [nats_ints] at ea1
        rw [nats_len] at c3
        obtain ⟨x0, t0, rfl⟩ : ∃ x t, u = x :: t := by
          cases u with
          | nil => simp at c3
          | cons x t => exact ⟨x, t, rfl⟩
        refine ⟨_, rfl, a, _, 0, .int (x0 : Nat), rfl, rfl, .of ea1, atI_nat (j := 0) rfl, ?_⟩
        refine ⟨_, rfl, a, _, rfl, .of ea1, by simp, fun m hm hle => ⟨rfl, _, rfl, ite2 (fun c4 => ?_) (fun c4 => ?_)⟩⟩
        · have e4 := V.int.inj (of_decide_eq_true c4)
          have mn : ∀ y ∈ x0 :: t0, (x0 :: t0).headD 0 ≤ y := fun y hy => by
            have h2 := hle (y : Int) (List.mem_map.mpr ⟨y, hy, rfl⟩)
            show x0 ≤ y
            omega
          have e1 : (nats (x0 :: t0))[1]? = some (.int ((x0 :: t0).getD 1 0 : Nat)) := by
            unfold nats
            rw [List.getElem?_map, List.getD_eq_getElem?_getD, List.getElem?_eq_getElem (by omega)]
            rfl
          have e2 : (nats (x0 :: t0))[(x0 :: t0).length - 1]? = some (.int ((x0 :: t0).getD ((x0 :: t0).length - 1) 0 : Nat)) := by
            unfold nats
            rw [List.getElem?_map, List.getD_eq_getElem?_getD, List.getElem?_eq_getElem (by omega)]
            rfl
          refine ⟨_, rfl, a, _, 1, _, rfl, rfl, .of ea2, atI_nat e1, _, rfl, _, rfl, a, _, _, _, rfl, rfl, .of ea2, atI_end (by rw [nats_len]; omega) (by rw [nats_len]; exact e2), _, _, rfl, rfl, ?_⟩
          refine q H1 _ s1 ⟨fun z => ⟨x0 :: t0, rfl, ⟨c3, uk, un, mn⟩, ?_⟩, fun ⟨v, e, wu⟩ => ?_⟩
          · have := of_decide_eq_true z
            omega
          · obtain rfl := natsD_inj (u := v) e
            have := wu.o
            refine decide_eq_true ?_
            omega
        · refine q H1 false s1 ⟨(fun z => nomatch z), fun ⟨v, e, wu⟩ => ?_⟩
          obtain rfl := natsD_inj (u := v) e
          obtain ⟨y, hy, rfl⟩ := List.mem_map.mp hm
          have h2 : x0 ≤ y := wu.m y hy
          have h3 := hle (x0 : Int) (List.mem_map.mpr ⟨x0, List.mem_cons_self, rfl⟩)
          refine absurd (decide_eq_true ?_) c4
          have : (x0 : Int) = (y : Int) := by omega
          rw [this]
    | _ => exact ifT rfl (q H false (.refl H) ⟨(fun z => nomatch z), fun ⟨u, e, _⟩ => by unfold natsD at e; cases e⟩)
theorem ints_flat : ∀ ns : List Int, (ns.map V.int).all flatV = true
  | [] => rfl
  | n :: r => by
    rw [List.map_cons, List.all_cons, ints_flat r]
    rfl
theorem eq_int (m : Int) : eqV (.int m) (.int m) = true := by
  unfold eqV
  simp
theorem ne_int {m k : Int} (h : m ≠ k) : eqV (.int m) (.int k) = false := by
  unfold eqV
  simp [h]
/-- what may be said of what comes behind -/
theorem seq_cut {a b : TS} {D : Ends} {σ : L2.St} {H : Hp} (R : L2.St → Hp → Prop) (h : ∀ σ H, R σ H → b D σ H) (k : ∀ N' : L2.St → Hp → Prop, (∀ σ H, R σ H → N' σ H) → a { D with nx := N' } σ H) : tSeq a b D σ H := k (b D) h
theorem first_at {m : Int} : ∀ {l : List Int}, m ∈ l → ∃ j : Nat, l[j]? = some m ∧ ∀ i : Nat, i < j → l[i]? ≠ some m
  | [], h => by simp at h
  | x :: l, h => by
    by_cases c : x = m
    · exact ⟨0, by rw [c]; rfl, fun i hi => absurd hi (Nat.not_lt_zero i)⟩
    · obtain ⟨j, h1, h2⟩ := first_at ((List.mem_cons.mp h).resolve_left (Ne.symm c))
      refine ⟨j + 1, h1, fun i hi => ?_⟩
      cases i with
      | zero =>
        intro z
        exact c (Option.some.inj z)
      | succ i => exact h2 i (by omega)
/-- two lists of numbers beside the well -/
structure LpH (H0 H : Hp) (w l lA fA : Addr) (L Fn : List Nat) : Prop where
  kp : Kp (At w) H0 H
  W : WellAt w l H
  eL : H lA = some (.lst (nats L))
  eF : H fA = some (.lst (nats Fn))
  n1 : H0 lA = none
  n2 : H0 fA = none
  a : lA ≠ fA
  b1 : lA ≠ w
  b2 : fA ≠ w
  c1 : lA ≠ l
  c2 : fA ≠ l
theorem LpH.pick {H0 H H' : Hp} {w l l' lA fA : Addr} {L Fn : List Nat} (h : LpH H0 H w l lA fA L Fn) (k : Kp (At w) H H') (W : WellAt w l' H') (hl : l' = l ∨ H l' = none) : LpH H0 H' w l' lA fA L Fn :=
  ⟨h.kp.trans k, W, k _ _ h.b1 h.eL, k _ _ h.b2 h.eF, h.n1, h.n2, h.a, h.b1, h.b2, well_ne hl h.c1 h.eL, well_ne hl h.c2 h.eF⟩
theorem LpH.setL {H0 H : Hp} {w l lA fA : Addr} {L Fn : List Nat} (h : LpH H0 H w l lA fA L Fn) (L' : List Nat) : LpH H0 (upd H lA (.lst (nats L'))) w l lA fA L' Fn :=
  ⟨h.kp.upd h.n1, h.W.frame h.b1 h.c1, upd_same, by rw [upd_ne (Ne.symm h.a)]; exact h.eF, h.n1, h.n2, h.a, h.b1, h.b2, h.c1, h.c2⟩
theorem LpH.setF {H0 H : Hp} {w l lA fA : Addr} {L Fn : List Nat} (h : LpH H0 H w l lA fA L Fn) (F' : List Nat) : LpH H0 (upd H fA (.lst (nats F'))) w l lA fA L F' :=
  ⟨h.kp.upd h.n2, h.W.frame h.b2 h.c2, by rw [upd_ne h.a]; exact h.eL, upd_same, h.n1, h.n2, h.a, h.b1, h.b2, h.c1, h.c2⟩
/-- one list of numbers beside the well -/
structure LfH (H0 H : Hp) (w l fA : Addr) (Fn : List Nat) : Prop where
  kp : Kp (At w) H0 H
  W : WellAt w l H
  eF : H fA = some (.lst (nats Fn))
  b2 : fA ≠ w
theorem LfH.pick {H0 H H' : Hp} {w l l' fA : Addr} {Fn : List Nat} (h : LfH H0 H w l fA Fn) (k : Kp (At w) H H') (W : WellAt w l' H') : LfH H0 H' w l' fA Fn :=
  ⟨h.kp.trans k, W, k _ _ h.b2 h.eF, h.b2⟩
theorem LfH.same {H0 H H' : Hp} {w l fA : Addr} {Fn : List Nat} (h : LfH H0 H w l fA Fn) (s : Same H H') : LfH H0 H' w l fA Fn :=
  ⟨h.kp.trans (Kp.same s), h.W.same s, s _ _ h.eF, h.b2⟩
def spLoop : Sp := fun vs H Q _ => ∃ (w l : Addr) (n : Nat), vs = [.ref w, .int (n : Nat)] ∧ 1 ≤ n ∧ n ≤ 6 ∧ WellAt w l H ∧
  ∀ (H' : Hp) (l' p : Addr) (u : List Nat), Kp (At w) H H' → WellAt w l' H' → (l' = l ∨ H l' = none) → p ≠ w → H' p = some (.tup (nats u)) → u.length ≤ 7 → 1 ≤ u.length → (∀ x ∈ u, x < 6) → Q (.ref p) H'
theorem ok_lloop {f : Addr} {fd : FuncData} (F : Fun K "_law_loop" "_law_loop" s_law_loop f fd) (M : Mb mg) (Dlaw_pick : Df P w K mg base 1 "_law_pick" ["well", "limit"] spPickL) (Dlaw_of : Df P w K mg base 2 "_law_of" ["well", "some"] (spOfL K)) :
    FnOk P w K mg base CX0 3 f fd ["well", "many"] spLoop := by
  refine F.ok c_law_loop (fun vs H Q E h => ?_) (fun cdv A outer s H vs Q E hr h => ?_)
  · obtain ⟨w, l, n, rfl, _⟩ := h
    rfl
  · obtain ⟨w, l, n, rfl, n1, n6, hW, q⟩ := h
    have hu := hr.units
    refine ⟨_, (pss_cons (ps_par (i := 2) (j := 3) (by rfl) c_law_loop.nd rfl rfl (by decide) rfl rfl (pa_cons (pe_listRg rfl (by rfl) M.list (prg_1 (by rfl) M.range (pv 1))) (pa_cons (pe_lst pa_nil) pa_nil)) (by rfl))
 (pss_cons (ps_for PassesOwn.never rfl (pi_range1 (by rfl) M.range (pa_cons (pe_callB (call_min2 rfl) (by rfl) M.min (by decide +kernel) (pa_cons (pv 1) (pa_cons (pe_op op_add pe_int (pe_call Dlaw_pick.G (hr.mono (by first | decide | omega)) rfl Dlaw_pick.g Dlaw_pick.kp Dlaw_pick.b .nil pass0 (pa_cons (pv 0) (pa_cons pe_int pa_nil)))) pa_nil))) pa_nil)) (pg_name (i := 4) c_law_loop.nd rfl (.inl rfl))
 (pss_one (ps_expr (pe_bm PySem.F.plainAttrs_list PySem.F.slot_list_append PySem.F.type_list_append mt_append (pv 3) (pa_cons (pe_bm PySem.F.plainAttrs_list PySem.F.slot_list_pop PySem.F.type_list_pop mt_popAt (pv 2) (pa_cons (pe_call Dlaw_pick.G (hr.mono (by first | decide | omega)) rfl Dlaw_pick.g Dlaw_pick.kp Dlaw_pick.b .nil pass0 (pa_cons (pv 0) (pa_cons (pe_callB call_len_seq (by rfl) M.len (by decide +kernel) (pa_cons (pv 2) pa_nil)) pa_nil))) pa_nil)) pa_nil)))))
 (pss_cons (ps_set (i := 5) c_law_loop.nd rfl (.inl rfl) (pe_ifExp (pt_cmpR op_gt (pe_call Dlaw_pick.G (hr.mono (by first | decide | omega)) rfl Dlaw_pick.g Dlaw_pick.kp Dlaw_pick.b .nil pass0 (pa_cons (pv 0) (pa_cons pe_int pa_nil))) pe_int (nomark _)) (pe_bm PySem.F.plainAttrs_list PySem.F.slot_list_index PySem.F.type_list_index mt_index (pv 3) (pa_cons (pe_callB (cr_min rfl) (by rfl) M.min (by decide +kernel) (pa_cons (pv 3) pa_nil)) pa_nil)) pe_int))
 (pss_cons (ps_set (i := 3) c_law_loop.nd rfl (.inl rfl) (pe_op op_cat (pe_slice sl_list (pv 3) (po_some (pv 5)) po_none) (pe_slice sl_list (pv 3) po_none (po_some (pv 5)))))
 (pss_cons (ps_if (PW.pt (pw_and (pt_cmpR (op_neD hu) (pe_slice sl_list (pv 3) (po_some pe_int) po_none) (pe_lst pa_nil) (nomark _)) (pw_and (pt_cmpR op_gt (pe_ix ix_list (pv 3) pe_int (fun _ _ => rfl)) (pe_ix ix_list (pv 3) (pe_un un_neg pe_int) (fun _ _ => rfl)) (nomark _)) (pw_and1 (pt_cmpR op_gt (pe_call Dlaw_pick.G (hr.mono (by first | decide | omega)) rfl Dlaw_pick.g Dlaw_pick.kp Dlaw_pick.b .nil pass0 (pa_cons (pv 0) (pa_cons pe_int pa_nil))) pe_int (nomark _))))))
 (pss_one (ps_set (i := 3) c_law_loop.nd rfl (.inl rfl) (pe_op op_cat (pe_slice sl_list (pv 3) po_none (po_some pe_int)) (L2.pe_revL (pe_slice sl_list (pv 3) (po_some pe_int) po_none)))))
 pss_nil)
 (pss_cons (ps_if (pt_cmpR op_eq (pe_call Dlaw_pick.G (hr.mono (by first | decide | omega)) rfl Dlaw_pick.g Dlaw_pick.kp Dlaw_pick.b .nil pass0 (pa_cons (pv 0) (pa_cons pe_int pa_nil))) pe_int (nomark _))
 (pss_one (ps_set (i := 3) c_law_loop.nd rfl (.inl rfl) (pe_op op_cat (pv 3) (pe_lst (pa_cons (pe_call Dlaw_of.G (hr.mono (by first | decide | omega)) rfl Dlaw_of.g Dlaw_of.kp Dlaw_of.b .nil pass0 (pa_cons (pv 0) (pa_cons (pv 3) pa_nil))) pa_nil)))))
 pss_nil)
 (pss_one (ps_ret (pe_callTy call_tuple_of (by rfl) M.tuple (by decide +kernel) (pa_cons (pv 3) pa_nil)))))))))), ?_⟩
    refine ⟨_, rfl, _, rfl, ⟨by omega, by omega, by omega, by omega, by omega⟩, fun lA nl => ⟨Nat.zero_le _, fun fA nf => ⟨_, _, rfl, ?_⟩⟩⟩
    have rg : rgV 0 (n : Int) = nats (List.range n) := by
      unfold rgV nats
      have e : ((n : Int) - 0).toNat = n := by omega
      rw [e]
      refine List.map_congr_left fun i _ => ?_
      rw [Int.zero_add]
    rw [rg] at nf ⊢
    have h0 : LpH H (upd (upd H lA (.lst (nats (List.range n)))) fA (.lst [])) w l lA fA (List.range n) [] := by
      have W1 := hW.new (o := .lst (nats (List.range n))) nl
      have W2 := W1.new (o := .lst []) nf
      have e1 : lA ≠ fA := ne_of_none (show (upd H lA (.lst (nats (List.range n)))) lA = some _ from upd_same) nf
      have nf0 : H fA = none := (same_new nl).free nf
      exact ⟨(Kp.new nl).trans (Kp.new nf), W2, by rw [upd_ne e1]; exact upd_same, upd_same, nl, nf0, e1, (hW.ne nl).1, (hW.ne nf0).1, (hW.ne nl).2, (hW.ne nf0).2⟩
    generalize upd (upd H lA (.lst (nats (List.range n)))) fA (.lst []) = H1 at h0 ⊢
    have up : ∀ {H' H'' : Hp} {a b c : Addr}, (a = l ∨ H a = none) → (b = a ∨ H' b = none) → Kp (At w) H H' → WellAt w b H'' → (b = l ∨ H b = none) := fun {H' H'' a b c} ha hb k W => by
      rcases hb with hb | hb
      · rw [hb]
        exact ha
      · exact .inr (kp_free k hb (by
          obtain ⟨_, _, _, _, e, _⟩ := W
          exact e))
    refine ⟨_, rfl, _, rfl, w, l, _, rfl, by omega, by omega, h0.W, fun H2 d l2 d0 d1 k2 W2 hl2 => ?_⟩
    have h2 := h0.pick k2 W2 hl2
    have q2 := up (c := w) (.inl rfl) hl2 h0.kp W2
    obtain ⟨m, hm, m1, mn⟩ : ∃ m : Nat, (if (3 : Int) + d < n then 3 + d else n) = (m : Int) ∧ 1 ≤ m ∧ m ≤ n := by
      split
      · exact ⟨(3 + d).toNat, by omega, by omega, by omega⟩
      · exact ⟨n, rfl, n1, Nat.le_refl _⟩
    refine ⟨_, _, rfl, rfl, _, _, rfl, _, rfl, ?_⟩
    rw [hm]
    refine ⟨by omega, by omega, ?_⟩
    have em : ((m : Int)).toNat = m := Int.toNat_natCast m
    rw [em]
    refine for_range (lo := 0) (n := m) (fun t σ H' => ∃ l' L Fn y4 y5, σ = [some (.ref w), some (.int (n : Nat)), some (.ref lA), some (.ref fA), y4, y5] ∧ (l' = l ∨ H l' = none) ∧ LpH H H' w l' lA fA L Fn ∧ L.length + t = n ∧ Fn.length = t ∧ (∀ x ∈ L, x < n) ∧ ∀ x ∈ Fn, x < n)
      ⟨l2, _, [], _, _, rfl, q2, h2, by simp, rfl, fun x hx => List.mem_range.mp hx, fun x hx => by simp at hx⟩ ?_ ?_
    · clear h0 h2 q2 hm em
      rintro t σ H3 ht ⟨l3, L, Fn, y4, y5, rfl, q3, h3, hL, hF, hx, hy⟩
      refine ⟨_, rfl, .inl ⟨rfl, _, .of h3.eF⟩, _, rfl, .inl ⟨rfl, _, .of h3.eL⟩, _, rfl, _, rfl, lA, _, rfl, .inl (.of h3.eL), w, l3, _, rfl, by rw [nats_len]; omega, by rw [nats_len]; omega, h3.W, fun H4 d4 l4 dl du k4 W4 hl4 => ?_⟩
      rw [nats_len] at du
      have h4 := h3.pick k4 W4 hl4
      have q4 := up (c := w) q3 hl4 h3.kp W4
      obtain ⟨i, rfl⟩ : ∃ i : Nat, d4 = (i : Int) := ⟨d4.toNat, by omega⟩
      have hi : i < L.length := by omega
      have ei : L[i]? = some L[i] := List.getElem?_eq_getElem hi
      generalize hxx : L[i] = x at ei
      refine ⟨lA, _, _, i, .int (x : Nat), rfl, rfl, h4.eL, by omega, by omega, seqI (by rw [nats_len]; exact hi), by unfold nats; rw [List.getElem?_map, ei]; rfl, ?_⟩
      rw [erase_nats]
      have h5 := h4.setL (L.eraseIdx i)
      generalize upd H4 lA (.lst (nats (L.eraseIdx i))) = H5 at h5 ⊢
      refine ⟨fA, _, _, rfl, rfl, h5.eF, by rw [nats_len]; exact sz63' (by omega), ?_⟩
      have e1 : nats Fn ++ [.int (x : Nat)] = nats (Fn ++ [x]) := by
        unfold nats
        rw [List.map_append]
        rfl
      rw [e1]
      have le := List.length_eraseIdx_of_lt hi
      refine ⟨l4, _, _, _, _, rfl, q4, h5.setF (Fn ++ [x]), by omega, by rw [List.length_append, hF]; rfl, fun y hy' => hx y (List.mem_of_mem_eraseIdx hy'), fun y hy' => ?_⟩
      rcases List.mem_append.mp hy' with hy' | hy'
      · exact hy y hy'
      · have : y = x := by simpa using hy'
        rw [this]
        exact hx x (List.mem_of_getElem? ei)
    · clear h0 h2 q2 hm em
      rintro σ H3 ⟨l3, L, Fn, y4, y5, rfl, q3, h3, hL, hF, hx, hy⟩
      have f3 : LfH H H3 w l3 fA Fn := ⟨h3.kp, h3.W, h3.eF, h3.b2⟩
      clear h3
      -- at
      try dsimp only
      refine seq_cut (fun σ H' => ∃ l' i y4, σ = [some (.ref w), some (.int (n : Nat)), some (.ref lA), some (.ref fA), y4, some (.int (i : Nat))] ∧ (l' = l ∨ H l' = none) ∧ LfH H H' w l' fA Fn ∧ i ≤ Fn.length) ?_ ?_
      · clear q3 f3
        rintro σ H4 ⟨l4, i, y4, rfl, q4, f4, hi⟩
        -- turned so that it begins there
        refine ⟨_, rfl, _, rfl, _, rfl, fA, _, rfl, .of f4.eF, fun c nc => ?_⟩
        rw [cut_from (by rw [nats_len]; exact hi)]
        refine ⟨_, rfl, _, rfl, _, rfl, fA, _, rfl, .of (same_new nc _ _ f4.eF), fun c2 nc2 => ?_⟩
        rw [cut_to (by rw [nats_len]; exact hi)]
        have s5 := (same_new (o := .lst ((nats Fn).drop i)) nc).trans (same_new (o := .lst ((nats Fn).take i)) nc2)
        refine ⟨c, c2, _, _, rfl, rfl, same_new nc2 _ _ upd_same, upd_same, sz63 (by rw [List.length_drop, List.length_take, nats_len]; omega), fun m2 nm => ?_⟩
        have e2 : (nats Fn).drop i ++ (nats Fn).take i = nats (Fn.drop i ++ Fn.take i) := by
          unfold nats
          rw [List.map_append, List.map_drop, List.map_take]
        rw [e2]
        have lu : (Fn.drop i ++ Fn.take i).length = m := by
          rw [List.length_append, List.length_drop, List.length_take]
          omega
        have xu : ∀ x ∈ Fn.drop i ++ Fn.take i, x < n := fun x hx => by
          rcases List.mem_append.mp hx with z | z
          · exact hy x (List.mem_of_mem_drop z)
          · exact hy x (List.mem_of_mem_take z)
        generalize Fn.drop i ++ Fn.take i = u at lu xu e2 ⊢
        have f5 : LfH H (upd (upd (upd H4 c (.lst ((nats Fn).drop i))) c2 (.lst ((nats Fn).take i))) m2 (.lst (nats u))) w l4 m2 u := by
          have f := (f4.same s5).same (same_new (o := .lst (nats u)) nm)
          exact ⟨f.kp, f.W, upd_same, ((f4.same s5).W.ne nm).1⟩
        generalize upd (upd (upd H4 c (.lst ((nats Fn).drop i))) c2 (.lst ((nats Fn).take i))) m2 (.lst (nats u)) = H5 at f5 ⊢
        clear f4 s5 nc nc2 nm e2
        -- turned round
        try dsimp only
        refine seq_cut (fun σ H' => ∃ l' g v y4 y5, σ = [some (.ref w), some (.int (n : Nat)), some (.ref lA), some (.ref g), y4, y5] ∧ (l' = l ∨ H l' = none) ∧ LfH H H' w l' g v ∧ 1 ≤ v.length ∧ v.length ≤ 6 ∧ ∀ x ∈ v, x < n) ?_ ?_
        · clear q4 f5 lu xu
          rintro σ H6 ⟨l6, g, v, y4, y5, rfl, q6, f6, v1, v6, xv⟩
          -- one more
          try dsimp only
          refine seq_cut (fun σ H' => ∃ l' g v y4 y5, σ = [some (.ref w), some (.int (n : Nat)), some (.ref lA), some (.ref g), y4, y5] ∧ (l' = l ∨ H l' = none) ∧ LfH H H' w l' g v ∧ 1 ≤ v.length ∧ v.length ≤ 7 ∧ ∀ x ∈ v, x < n) ?_ ?_
          · clear q6 f6 v1 v6 xv
            rintro σ H7 ⟨l7, g, v, y4, y5, rfl, q7, f7, v1, v7, xv⟩
            refine ⟨_, rfl, g, _, rfl, .inl ⟨.of f7.eF, fun t nt => ?_⟩⟩
            exact q _ l7 t v (f7.kp.trans (Kp.new nt)) (f7.W.new nt) q7 (f7.W.ne nt).1 upd_same v7 v1 fun x hx => Nat.lt_of_lt_of_le (xv x hx) n6
          · intro N' hN
            refine ⟨_, rfl, w, l6, _, rfl, by omega, by omega, f6.W, fun H7 d7 l7 dl du k7 W7 hl7 => ?_⟩
            have f7 := f6.pick k7 W7
            have q7 := up (c := w) q6 hl7 f6.kp W7
            refine ⟨rfl, _, rfl, ite2 (fun c => ?_) (fun c => ?_)⟩
            · refine ⟨_, rfl, _, rfl, _, rfl, w, l7, g, _, rfl, f7.W, f7.b2, .inl (.of f7.eF), by rw [nats_len]; omega, by rw [nats_len]; omega, fun H8 i8 v8 l8 e8 k8 W8 hl8 => ⟨sz63 (by show 1 ≤ 1000; decide), fun t nt => ?_⟩⟩
              have f8 := f7.pick k8 W8
              have q8 := up (c := w) q7 hl8 f7.kp W8
              obtain ⟨x, hx8, rfl⟩ := nats_get e8
              have s9 : Same H8 (upd H8 t (.lst [.int (x : Nat)])) := same_new nt
              refine ⟨g, t, _, _, rfl, rfl, s9 _ _ f8.eF, upd_same, sz63 (by rw [nats_len]; show v.length + 1 ≤ 1000; omega), fun m3 nm3 => hN _ _ ?_⟩
              have e9 : nats v ++ [.int (x : Nat)] = nats (v ++ [x]) := by
                unfold nats
                rw [List.map_append]
                rfl
              rw [e9]
              have f9 := (f8.same s9).same (same_new (o := .lst (nats (v ++ [x]))) nm3)
              refine ⟨l8, m3, v ++ [x], _, _, rfl, q8, ⟨f9.kp, f9.W, upd_same, ((f8.same s9).W.ne nm3).1⟩, by rw [List.length_append]; omega, by rw [List.length_append]; show v.length + 1 ≤ 7; omega, fun y hy' => ?_⟩
              rcases List.mem_append.mp hy' with z | z
              · exact xv y z
              · have : y = x := by simpa using z
                rw [this]
                exact xv x (List.mem_of_getElem? hx8)
            · exact hN _ _ ⟨l7, g, v, _, _, rfl, q7, f7, v1, by omega, xv⟩
        · intro N' hN
          have stay : ∀ (H' : Hp) (l' : Addr), (l' = l ∨ H l' = none) → LfH H H' w l' m2 u → ∃ l' g v z4 z5, ([some (.ref w), some (.int (n : Nat)), some (.ref lA), some (.ref m2), y4, some (.int (i : Nat))] : L2.St) = [some (.ref w), some (.int (n : Nat)), some (.ref lA), some (.ref g), z4, z5] ∧ (l' = l ∨ H l' = none) ∧ LfH H H' w l' g v ∧ 1 ≤ v.length ∧ v.length ≤ 6 ∧ ∀ x ∈ v, x < n := fun H' l' hq f =>
            ⟨l', m2, u, _, _, rfl, hq, f, by omega, by omega, xu⟩
          refine ⟨_, rfl, _, rfl, m2, _, rfl, .of f5.eF, fun c nc => ⟨Nat.zero_le _, fun e ne => ?_⟩⟩
          have c1 : cutV (nats u) (some 1) none = (nats u).drop 1 := cut_from (n := 1) (by rw [nats_len]; omega)
          have ed : (nats u).drop 1 = ((u.drop 1).map fun x : Nat => (x : Int)).map V.int := by
            rw [← nats_ints]
            unfold nats
            rw [List.map_drop]
          rw [c1, ed] at ne ⊢
          have s6 := (same_new (o := .lst (((u.drop 1).map fun x : Nat => (x : Int)).map V.int)) nc).trans (same_new (o := .lst []) ne)
          have ec : (upd (upd H5 c (.lst (((u.drop 1).map fun x : Nat => (x : Int)).map V.int))) e (.lst [])) c = some (.lst (((u.drop 1).map fun x : Nat => (x : Int)).map V.int)) := same_new ne _ _ upd_same
          have ee : (upd (upd H5 c (.lst (((u.drop 1).map fun x : Nat => (x : Int)).map V.int))) e (.lst [])) e = some (.lst []) := upd_same
          have f6 := f5.same s6
          generalize upd (upd H5 c (.lst (((u.drop 1).map fun x : Nat => (x : Int)).map V.int))) e (.lst []) = H6 at ec ee f6 ⊢
          refine ⟨.list (((u.drop 1).map fun x : Nat => (x : Int)).map PyData.int), .list [], .lst (.inl (.inl ec)) (ints_dp _), .lst (.inl (.inl ee)) .nil, ints_shaped _, ints_shaped [], _, rfl, ?_⟩
          rw [ints_nil]
          cases hE : (((u.drop 1).map fun x : Nat => (x : Int))).isEmpty with
          | true => exact ifF (fun z => nomatch z) (hN _ _ (stay H6 l4 q4 f6))
          | false =>
            have u2 : 2 ≤ u.length := by
              rw [List.isEmpty_eq_false_iff] at hE
              have := List.length_pos_iff.mpr hE
              rw [List.length_map, List.length_drop] at this
              omega
            refine ifT rfl ?_
            have e1 : (nats u)[1]? = some (.int (u.getD 1 0 : Nat)) := by
              unfold nats
              rw [List.getElem?_map, List.getD_eq_getElem?_getD, List.getElem?_eq_getElem (by omega)]
              rfl
            have e2 : (nats u)[u.length - 1]? = some (.int (u.getD (u.length - 1) 0 : Nat)) := by
              unfold nats
              rw [List.getElem?_map, List.getD_eq_getElem?_getD, List.getElem?_eq_getElem (by omega)]
              rfl
            refine ⟨_, rfl, m2, _, 1, _, rfl, rfl, .of f6.eF, atI_nat e1, _, rfl, _, rfl, m2, _, _, _, rfl, rfl, .of f6.eF, atI_end (by rw [nats_len]; omega) (by rw [nats_len]; exact e2), _, _, rfl, rfl, _, rfl, ite2 (fun cb => ?_) (fun cb => ?_)⟩
            · refine ⟨_, rfl, w, l4, _, rfl, by omega, by omega, f6.W, fun H7 d7 l7 dl du k7 W7 hl7 => ?_⟩
              have f7 := f6.pick k7 W7
              have q7 := up (c := w) q4 hl7 f6.kp W7
              refine ⟨_, _, rfl, rfl, _, rfl, ite2 (fun cc => ?_) (fun cc => ?_)⟩
              · refine ⟨_, rfl, _, rfl, m2, _, rfl, .of f7.eF, fun g1 ng1 => ?_⟩
                have c2 : cutV (nats u) none (some 1) = (nats u).take 1 := cut_to (n := 1) (by rw [nats_len]; omega)
                rw [c2]
                refine ⟨_, rfl, _, rfl, m2, _, rfl, .of (same_new ng1 _ _ f7.eF), fun g2 ng2 => ?_⟩
                rw [c1]
                have sg := (same_new (o := .lst ((nats u).take 1)) ng1).trans (same_new (o := .lst ((nats u).drop 1)) ng2)
                refine ⟨g2, _, rfl, .of upd_same, fun g3 ng3 => ?_⟩
                have sg3 := sg.trans (same_new (o := .lst ((nats u).drop 1).reverse) ng3)
                refine ⟨g1, g3, _, _, rfl, rfl, same_new ng3 _ _ (same_new ng2 _ _ upd_same), upd_same, sz63 (by rw [List.length_take, List.length_reverse, List.length_drop, nats_len]; omega), fun m3 nm3 => hN _ _ ?_⟩
                have e9 : (nats u).take 1 ++ ((nats u).drop 1).reverse = nats (u.take 1 ++ (u.drop 1).reverse) := by
                  unfold nats
                  rw [List.map_append, List.map_take, List.map_reverse, List.map_drop]
                rw [e9]
                have f9 := (f7.same sg3).same (same_new (o := .lst (nats (u.take 1 ++ (u.drop 1).reverse))) nm3)
                refine ⟨l7, m3, u.take 1 ++ (u.drop 1).reverse, _, _, rfl, q7, ⟨f9.kp, f9.W, upd_same, ((f7.same sg3).W.ne nm3).1⟩, ?_, ?_, fun y hy' => ?_⟩
                · rw [List.length_append, List.length_take, List.length_reverse, List.length_drop]
                  omega
                · rw [List.length_append, List.length_take, List.length_reverse, List.length_drop]
                  omega
                · rcases List.mem_append.mp hy' with z | z
                  · exact xu y (List.mem_of_mem_take z)
                  · exact xu y (List.mem_of_mem_drop (List.mem_reverse.mp z))
              · exact hN _ _ (stay H7 l7 q7 f7)
            · exact hN _ _ (stay H6 l4 q4 f6)
      · intro N' hN
        refine ⟨_, rfl, w, l3, _, rfl, by omega, by omega, f3.W, fun H4 d4 l4 dl du k4 W4 hl4 => ?_⟩
        have f4 := f3.pick k4 W4
        have q4 := up (c := w) q3 hl4 f3.kp W4
        refine ⟨_, _, rfl, rfl, _, rfl, ite2 (fun c => ?_) (fun c => ?_)⟩
        · have eF := f4.eF
          rw [nats_ints] at eF
          refine ⟨_, rfl, .inl ⟨rfl, _, .of eF⟩, _, rfl, fA, _, rfl, .of eF, by rw [List.length_map]; omega, fun mm hmm _ => ?_⟩
          obtain ⟨j, hj, hfst⟩ := first_at hmm
          have jl : j < Fn.length := by
            have := (List.getElem?_eq_some_iff.mp hj).1
            rwa [List.length_map] at this
          refine ⟨fA, _, .int mm, j, .int mm, rfl, rfl, .of eF, rfl, ints_flat _, by rw [List.getElem?_map, hj]; rfl, eq_int mm, fun i z hi hz => ?_, ?_⟩
          · obtain ⟨y, hy2, rfl⟩ := map_some hz
            have ne : y ≠ mm := fun e => hfst i hi (by rw [hy2, e])
            exact ne_int ne
          · exact hN _ _ ⟨l4, j, _, rfl, q4, f4, Nat.le_of_lt jl⟩
        · exact hN _ _ ⟨l4, 0, _, rfl, q4, f4, Nat.zero_le _⟩
end
end Kx
set_option exponentiation.threshold 4000
/-! The law. -/
namespace Kx
open PySem PySem.Spec PyProof.Rows L2 Bw
abbrev s_law_right : Stmt := topS 54
abbrev n_law_right : List Str := ["well", "many", "going", "things", "turn", "told", "thing", "due", "loops", "back", "loop", "forth", "other_way"]
theorem c_law_right : FnScope n_law_right ["well"] (defScope s_law_right) :=
  ⟨rfl, rfl, rfl, by decide +kernel, rfl, by decide +kernel, by decide +kernel⟩

abbrev slaw : Stmt := topS 55
abbrev nlaw : List Str := ["script", "well", "turn"]
theorem claw : FnScope nlaw ["script"] (defScope slaw) :=
  ⟨rfl, rfl, rfl, by decide +kernel, rfl, by decide +kernel, by decide +kernel⟩

section
variable {X : Cx} {k : Nat} {f : Addr} {fd : FuncData} {x1 x2 : Str} {sp : Sp} {x : Str} {p pos : PySem.Pos} {kws : List Keyword} {tk : TA}
/-- a def called by its two parameters' names alone, in the other order -/
theorem pe_callS2 (F : FnOk X.prog X.w X.K X.mg X.base CX0 k f fd [x1, x2] sp) (hr : Room k X.A) (hg : Gl X x) (hm : X.mg x = some (.ref f)) (hk : PySem.W.keepIn X.K (.ref f) = true)
    (hb : ∀ (s : Shared) (a b : Value), X.K.In s.heap → BindsTo s fd ⟨[], [(x2, a), (x1, b)]⟩ [(x1, b), (x2, a)]) (hkw : PK X kws tk)
    (hall : (backToKw pos (keywordEach kws X.env)).all (·.1.isSome) = true := by rfl) (hks : (backToKw pos (keywordEach kws X.env)).filterMap (·.1) = [x2, x1] := by rfl)
    (hdb : (x == ("__debug__" : Str)) = false := by decide) (hpl : ((backTo pos (starEach [] X.env)).any (·.1) || (backToKw pos (keywordEach kws X.env)).any (·.1.isNone)) = false := by rfl) :
    PE X (.Call (.Name x p) [] kws pos) (fun σ H Q => tk σ H fun zs H2 => ∃ a b, zs = [a, b] ∧ sp [b, a] H2 Q E0) := by
  refine ⟨fun pins s σ H Q I h => wpAny_Call_Name_kw (ld_glob I hg hm ?_ hdb)⟩
  refine PySem.W.callWith_KW0 (h₀ := X.base) I.ok.mod.kin hk hall ?_ hpl
  refine thn (hkw.run pos pins s σ H _ I h) fun ws s1 ⟨zs, H1, I1, r1, a, b, ez, q1⟩ => ⟨I1.kIn, ?_⟩
  subst ez
  rw [hks]
  obtain ⟨ua, ub, ew, ra, rb⟩ : ∃ ua ub, ws = [ua, ub] ∧ L2.RelV a ua ∧ L2.RelV b ub := by
    cases r1 with
    | cons ra r1 =>
      cases r1 with
      | cons rb r1 =>
        cases r1
        exact ⟨_, _, rfl, ra, rb⟩
  subst ew
  refine wpAny_call (codeAny_mono (F.run X.A X.stack s1 H1 ⟨[], [(x2, ua), (x1, ub)]⟩ [ub, ua] [b, a] Q E0 hr I1.env0 (hb s1 ua ub I1.kIn) (.cons rb (.cons ra .nil)) q1) fun r s' hq => ?_)
  match r, hq with
  | .error _, hq => exact False.elim hq
  | .ok (.ret _), hq => exact I1.after hq
  | .ok .next, hq => exact False.elim hq
  | .ok .brk, hq => exact False.elim hq
  | .ok .cont, hq => exact False.elim hq
end
theorem wk_of {n : Nat} {M : List (List Nat)} (n1 : 1 ≤ n) (n6 : n ≤ 6) (g : Good n M) (pR : ∀ row ∈ M, ∃ k ∈ row, 0 < k) (con : ∀ a b, a < n → b < n → Reach (Pos M) a b) : Wk n M := by
  have at2 : ∀ i, i < n → ∃ row, M[i]? = some row ∧ row.length = n := fun i hi => by
    have hl := g.l
    have e : M[i]? = some (M[i]'(by omega)) := List.getElem?_eq_getElem (by omega)
    exact ⟨_, e, g.r _ (List.mem_of_getElem? e)⟩
  refine ⟨n1, n6, g.l, g.r, fun i j hi hj => ?_, fun a b ha hb => (con a b ha hb).mono fun x y e => ?_, fun i hi => ?_⟩
  · obtain ⟨row, e, hl⟩ := at2 i hi
    rw [mf_row e]
    have e2 : row[j]? = some (row[j]'(by omega)) := List.getElem?_eq_getElem (by omega)
    show row.getD j 0 < 2 ^ 20
    rw [List.getD_eq_getElem?_getD, e2]
    exact g.k row (List.mem_of_getElem? e) _ (List.mem_of_getElem? e2)
  · obtain ⟨row, k, h1, h2, h3⟩ := e
    have hx : x < n := by
      have := (List.getElem?_eq_some_iff.mp h1).1
      have := g.l
      omega
    have hl := g.r row (List.mem_of_getElem? h1)
    have hy : y < n := by
      have := (List.getElem?_eq_some_iff.mp h2).1
      omega
    refine ⟨hx, hy, ?_⟩
    rw [mf_row h1]
    show 0 < row.getD y 0
    rw [List.getD_eq_getElem?_getD, h2]
    exact h3
  · obtain ⟨row, e, hl⟩ := at2 i hi
    obtain ⟨k, hk, h0⟩ := pR row (List.mem_of_getElem? e)
    obtain ⟨j, hj⟩ := List.mem_iff_getElem?.mp hk
    have hj2 := (List.getElem?_eq_some_iff.mp hj).1
    rw [mf_row e]
    refine sN_pos (i := j) (by omega) ?_
    show 0 < row.getD j 0
    rw [List.getD_eq_getElem?_getD, hj]
    exact h0
/-- the walk backwards is a walk -/
theorem back_walk {n : Nat} {M : List (List Nat)} (wk : Wk n M) : IsWalk (tabD (walkM (bkM n M))) ∧ walkM (bkM n M) = tabF n (chQ n (mf (bkM n M))) ∧ ∀ r ∈ walkM (bkM n M), ∀ q ∈ r, Bq.Sz 770 q := by
  have bl : (bkM n M).length = n := by
    unfold bkM
    simp
  have br : ∀ row ∈ bkM n M, row.length = n := fun row h => by
    unfold bkM at h
    obtain ⟨i, _, rfl⟩ := List.mem_map.mp h
    simp
  have wl : (walkM (bkM n M)).length = n := by
    unfold walkM
    rw [List.length_map, bl]
  have at2 : ∀ i, i < n → ∃ row, (bkM n M)[i]? = some row ∧ row.length = n ∧ mf (bkM n M) i = fun j => row.getD j 0 := fun i hi => by
    have e : (bkM n M)[i]? = some ((bkM n M)[i]'(by omega)) := List.getElem?_eq_getElem (by omega)
    exact ⟨_, e, br _ (List.mem_of_getElem? e), mf_row e⟩
  have edge : ∀ x y, x < n → y < n → 0 < mf M x y → ∃ row k, (bkM n M)[y]? = some row ∧ row[x]? = some k ∧ 0 < k := fun x y hx hy h => by
    obtain ⟨row, e, hl, em⟩ := at2 y hy
    have e2 : row[x]? = some (row[x]'(by omega)) := List.getElem?_eq_getElem (by omega)
    refine ⟨row, _, e, e2, ?_⟩
    have e3 := bkM_at (M := M) hy hx
    rw [em] at e3
    have e4 : row.getD x 0 = row[x]'(by omega) := by
      rw [List.getD_eq_getElem?_getD, e2]
      rfl
    rw [← e4]
    show 0 < (fun j => row.getD j 0) x
    rw [e3]
    exact Nat.mul_pos (sol_pos wk.st x hx) h
  have pR : ∀ row ∈ bkM n M, ∃ k ∈ row, 0 < k := fun row h => by
    obtain ⟨i, hi⟩ := List.mem_iff_getElem?.mp h
    have hi2 : i < n := by
      have := (List.getElem?_eq_some_iff.mp hi).1
      omega
    obtain ⟨x, hx, h0⟩ : ∃ x, x < n ∧ 0 < mf M x i := by
      have n1 := wk.n1
      by_cases c : n = 1
      · have h1 := wk.p 0 (by omega)
        refine ⟨0, by omega, ?_⟩
        have : i = 0 := by omega
        rw [this]
        rw [c] at h1
        simpa [sN] using h1
      · obtain ⟨a, ha, ne⟩ : ∃ a, a < n ∧ a ≠ i := by
          by_cases z : i = 0
          · exact ⟨1, by omega, by omega⟩
          · exact ⟨0, by omega, by omega⟩
        obtain ⟨x, _, e1, _, e3⟩ := reach_last (wk.st a i ha hi2) ne
        exact ⟨x, e1, e3⟩
    obtain ⟨row', k, e1, e2, e3⟩ := edge x i hx hi2 h0
    rw [hi] at e1
    obtain rfl := Option.some.inj e1
    exact ⟨k, List.mem_of_getElem? e2, e3⟩
  have T := walkM_tab wk.n1 wk.n6 bl br pR
  have ef : walkM (bkM n M) = tabF n (chQ n (mf (bkM n M))) := by
    refine List.ext_getElem? fun i => ?_
    unfold tabF
    by_cases hi : i < n
    · rw [wk.bk_row hi, List.getElem?_map, List.getElem?_range hi]
      refine congrArg some (List.map_congr_left fun j hj => ?_)
      rw [wk.bk_ch hi (List.mem_range.mp hj)]
    · rw [List.getElem?_eq_none (by rw [wl]; omega), List.getElem?_eq_none (by simp; omega)]
  refine ⟨⟨_, rfl, T, fun a b ha hb => ?_, walkM_sum pR⟩, ef, fun r hr q hq => ?_⟩
  · rw [wl] at ha hb
    refine (Reach.back ((wk.st b a hb ha).mono (F := fun x y => Ed (walkM (bkM n M)) y x) fun x y e => ?_))
    obtain ⟨row, k, e1, e2, e3⟩ := edge x y e.1 e.2.1 e.2.2
    exact walkM_ed pR e1 e2 e3
  · rw [ef] at hr
    unfold tabF at hr
    obtain ⟨i, hi, rfl⟩ := List.mem_map.mp hr
    obtain ⟨j, hj, rfl⟩ := List.mem_map.mp hq
    rw [wk.bk_ch (List.mem_range.mp hi) (List.mem_range.mp hj)]
    exact wk.bk_sz2 (List.mem_range.mp hi) (List.mem_range.mp hj)
theorem _root_.Bw.Wk.ch23 {n : Nat} {M : List (List Nat)} (h : Wk n M) {i j : Nat} (hi : i < n) (hj : j < n) : Bq.Sz 23 (chQ n (mf M) i j) :=
  fQ_sz (Nat.lt_of_lt_of_le (h.k i j hi hj) (pow_le (by omega))) (h.rs_lt hi) (h.p i hi)
end Kx
set_option exponentiation.threshold 4000
/-! The law, from the well on. -/
namespace Kx
open PySem PySem.Spec PyProof.Rows L2 Bw
/-- the well and the list of things -/
abbrev Sw (w thA : Addr) : Addr → Prop := fun a => At w a ∨ a = thA
structure RtH (H : Hp) (w l thA : Addr) (vg : V) (T : PyData) (vs : List V) (ds : List PyData) : Prop where
  W : WellAt w l H
  eT : H thA = some (.lst vs)
  a : thA ≠ w
  b : thA ≠ l
  dg : Dq (Sw w thA) H vg T
  dv : DqAll (Sw w thA) H vs ds
section
variable {H H' : Hp} {w l l' thA : Addr} {vg : V} {T : PyData} {vs : List V} {ds : List PyData}
theorem RtH.pick (h : RtH H w l thA vg T vs ds) (k : Kp (At w) H H') (W : WellAt w l' H') (hl : l' = l ∨ H l' = none) : RtH H' w l' thA vg T vs ds :=
  ⟨W, k _ _ h.a h.eT, h.a, well_ne hl h.b h.eT, h.dg.keep (k.mono fun _ z => .inl z), h.dv.keep (k.mono fun _ z => .inl z)⟩
theorem RtH.same (h : RtH H w l thA vg T vs ds) (s : Same H H') : RtH H' w l thA vg T vs ds :=
  ⟨h.W.same s, s _ _ h.eT, h.a, h.b, h.dg.keep (Kp.same s), h.dv.keep (Kp.same s)⟩
theorem RtH.add (h : RtH H w l thA vg T vs ds) {v : V} {d : PyData} (dq : Dq (Sw w thA) H v d) : RtH (upd H thA (.lst (vs ++ [v]))) w l thA vg T (vs ++ [v]) (ds ++ [d]) :=
  have k : Kp (Sw w thA) H (upd H thA (.lst (vs ++ [v]))) := Kp.mut (.inr rfl)
  ⟨h.W.frame h.a h.b, upd_same, h.a, h.b, h.dg.keep k, (h.dv.keep k).app (.cons (dq.keep k) .nil)⟩
theorem RtH.ls (h : RtH H w l thA vg T vs ds) : LsS (Sw w thA) H := fun a z => by
  rcases z with z | z
  · obtain ⟨st, n, ns, e, _⟩ := h.W
    rw [show a = w from z]
    exact ⟨_, e⟩
  · rw [z]
    exact ⟨_, h.eT⟩
end
theorem fw_sz6 {f : Nat → Nat → Rat} {u : List Nat} (h : ∀ p ∈ stp u, Bq.Sz 23 (f p.1 p.2)) (u6 : u.length ≤ 6) : Bq.Sz 1900 (fw f (stp u)) := by
  have sl : (stp u).length = u.length := by
    unfold stp
    rw [List.length_zip, rot_len, Nat.min_self]
  have z := fw_sz h
  rw [sl] at z
  exact z.mono (by omega)
/-- is it a ring of so many places (by what is so, not by reckoning) -/
noncomputable def rgB (n : Nat) (d : PyData) : Bool := @decide (∃ u, d = natsD u ∧ RingW n u) (Classical.propDecidable _)
theorem rgB_of {n : Nat} {d : PyData} {b : Bool} (h : b = true ↔ ∃ u, d = natsD u ∧ RingW n u) : b = rgB n d := by
  unfold rgB
  refine Bool.eq_iff_iff.mpr ⟨fun z => ?_, fun z => ?_⟩
  · exact @decide_eq_true _ (Classical.propDecidable _) (h.mp z)
  · exact h.mpr (@of_decide_eq_true _ (Classical.propDecidable _) z)
theorem nats_ok {u : List Nat} (h : ∀ x ∈ u, x < 6) (l : u.length ≤ 7) : Pl 2 (natsD u) ∧ Bd 190 (natsD u) ∧ lnB (natsD u) = true := by
  refine ⟨⟨by rw [List.length_map]; omega, fun d hd => ?_⟩, bdAll_iff.mpr fun d hd => ?_, decide_eq_true (by rw [List.length_map]; omega)⟩
  · obtain ⟨x, _, rfl⟩ := List.mem_map.mp hd
    trivial
  · obtain ⟨x, hx, rfl⟩ := List.mem_map.mp hd
    have := h x hx
    show (x : Int).natAbs < 2 ^ 190
    exact Nat.lt_of_lt_of_le (show (x : Int).natAbs < 2 ^ 3 by omega) (pow_le (by omega))
section
variable {P : Program} {w : World} {K : PySem.W.Frag} {mg : Str → Option Value} {base : Heap}
def spRight : Sp := fun vs H Q _ => ∃ (w l : Addr), vs = [.ref w] ∧ WellAt w l H ∧ ∀ (H' : Hp) (l' : Addr), WellAt w l' H' → Q (.bl true) H'
theorem ok_right {f : Addr} {fd : FuncData} (F : Fun K "_law_right" "_law_right" s_law_right f fd) (M : Mb mg) (Dlaw_of : Df P w K mg base 2 "_law_of" ["well", "some"] (spOfL K)) (Dlaw_walk : Df P w K mg base 5 "_law_walk" ["well", "many"] spDraw)
    (Dlaw_loop : Df P w K mg base 3 "_law_loop" ["well", "many"] spLoop) (Dlaw_bent : Df P w K mg base 7 "_law_bent" ["well", "thing"] (spBent 2)) (Dlaw_odd : Df P w K mg base 3 "_law_odd" ["well"] spOdd)
    (Dis_ring : Df P w K mg base 8 "is_ring" ["walk", "value"] (spRing 800)) (Dlaw_is_ring : Df P w K mg base 2 "_law_is_ring" ["many", "thing"] spLRing) (Dlaw_rings : Df P w K mg base 1 "_law_rings" ["many"] spRings)
    (Dlaw_backward : Df P w K mg base 7 "_law_backward" ["going"] spBack) (Dlaw_around : Df P w K mg base 3 "_law_around" ["going", "loop"] spPair) (Dproducts : Df P w K mg base 9 "products" ["walk", "ring"] (spProducts 800))
    (Nis_ring : ∀ (s : Shared) (a b : Value), K.In s.heap → BindsTo s Dis_ring.fd ⟨[], [("value", a), ("walk", b)]⟩ [("walk", b), ("value", a)])
    (Nproducts : ∀ (s : Shared) (a b : Value), K.In s.heap → BindsTo s Dproducts.fd ⟨[], [("ring", a), ("walk", b)]⟩ [("walk", b), ("ring", a)]) :
    FnG P w K mg base 10 f fd ["well"] spRight := by
  refine okG F c_law_right (fun vs H Q E h => ?_) (fun cdv _ outer s H vs Q E hG hr h => ?_)
  · obtain ⟨w, l, rfl, _⟩ := h
    rfl
  · obtain ⟨w, l, rfl, hW, q⟩ := h
    have hu := hr.units
    refine ⟨_, (pss_cons (ps_set (i := 1) c_law_right.nd rfl (.inr rfl) (pe_call Dlaw_of.G (hr.mono (by first | decide | omega)) rfl Dlaw_of.g Dlaw_of.kp Dlaw_of.b .nil pass0 (pa_cons (pv 0) (pa_cons (pe_tup (pa_cons pe_int (pa_cons pe_int (pa_cons pe_int (pa_cons pe_int (pa_cons pe_int (pa_cons pe_int (pa_cons pe_int pa_nil)))))))) pa_nil))))
 (pss_cons (ps_set (i := 2) c_law_right.nd rfl (.inr rfl) (pe_call Dlaw_walk.G (hr.mono (by first | decide | omega)) rfl Dlaw_walk.g Dlaw_walk.kp Dlaw_walk.b .nil pass0 (pa_cons (pv 0) (pa_cons (pv 1) pa_nil))))
 (pss_cons (ps_set (i := 3) c_law_right.nd rfl (.inl rfl) (pe_lst pa_nil))
 (pss_cons (ps_for PassesOwn.never rfl (pi_range1 (by rfl) M.range (pa_cons pe_int pa_nil)) (pg_name (i := 4) c_law_right.nd rfl (.inl rfl))
 (pss_one (ps_expr (pe_bm PySem.F.plainAttrs_list PySem.F.slot_list_append PySem.F.type_list_append mt_append (pv 3) (pa_cons (pe_call Dlaw_loop.G (hr.mono (by first | decide | omega)) rfl Dlaw_loop.g Dlaw_loop.kp Dlaw_loop.b .nil pass0 (pa_cons (pv 0) (pa_cons (pv 1) pa_nil))) pa_nil)))))
 (pss_cons (ps_expr (pe_bm PySem.F.plainAttrs_list PySem.F.slot_list_append PySem.F.type_list_append mt_append (pv 3) (pa_cons (pe_call Dlaw_bent.G (hr.mono (by first | decide | omega)) rfl Dlaw_bent.g Dlaw_bent.kp Dlaw_bent.b .nil pass0 (pa_cons (pv 0) (pa_cons (pe_ix ix_list (pv 3) pe_int (fun _ _ => rfl)) pa_nil))) pa_nil)))
 (pss_cons (ps_expr (pe_bm PySem.F.plainAttrs_list PySem.F.slot_list_append PySem.F.type_list_append mt_append (pv 3) (pa_cons (pe_call Dlaw_odd.G (hr.mono (by first | decide | omega)) rfl Dlaw_odd.g Dlaw_odd.kp Dlaw_odd.b .nil pass0 (pa_cons (pv 0) pa_nil)) pa_nil)))
 (pss_cons (ps_set (i := 5) c_law_right.nd rfl (.inl rfl) (pe_op op_cat (pe_lc (own := [("thing", 6)]) rfl c_law_right.nd (pi_list (pv 3)) (blkOk_by (own := [("thing", 6)]) (N := n_law_right) (sc := defScope s_law_right) (by decide +kernel)) (fun _ _ _ _ _ => (pg_name (i := 6) c_law_right.nd rfl (.inl rfl))) (fun _ _ _ _ _ => pts_nil) (fun _ _ _ _ _ => (pe_call Dis_ring.G (hr.mono (by first | decide | omega)) rfl Dis_ring.g Dis_ring.kp Dis_ring.b .nil pass0 (pa_cons (pv 2) (pa_cons (pv 6) pa_nil))))) (pe_lst (pa_cons (pe_callS2 (by exact Dis_ring.G) (hr.mono (by first | decide | omega)) rfl Dis_ring.g Dis_ring.kp Nis_ring (pk_cons (pe_ix ix_list (pv 3) pe_int (fun _ _ => rfl)) (pk_cons (pv 2) pk_nil))) pa_nil))))
 (pss_cons (ps_set (i := 7) c_law_right.nd rfl (.inl rfl) (pe_op op_cat (pe_lc (own := [("thing", 6)]) rfl c_law_right.nd (pi_list (pv 3)) (blkOk_by (own := [("thing", 6)]) (N := n_law_right) (sc := defScope s_law_right) (by decide +kernel)) (fun _ _ _ _ _ => (pg_name (i := 6) c_law_right.nd rfl (.inl rfl))) (fun _ _ _ _ _ => pts_nil) (fun _ _ _ _ _ => (pe_call Dlaw_is_ring.G (hr.mono (by first | decide | omega)) rfl Dlaw_is_ring.g Dlaw_is_ring.kp Dlaw_is_ring.b .nil pass0 (pa_cons (pv 1) (pa_cons (pv 6) pa_nil))))) (pe_lst (pa_cons (pe_call Dlaw_is_ring.G (hr.mono (by first | decide | omega)) rfl Dlaw_is_ring.g Dlaw_is_ring.kp Dlaw_is_ring.b .nil pass0 (pa_cons (pv 1) (pa_cons (pe_ix ix_list (pv 3) pe_int (fun _ _ => rfl)) pa_nil))) pa_nil))))
 (pss_cons (ps_if (pt_cmpR op_ne (pe_callB (call_repr hG hr) (by rfl) M.repr (by decide +kernel) (pa_cons (pv 5) pa_nil)) (pe_callB (call_repr hG hr) (by rfl) M.repr (by decide +kernel) (pa_cons (pv 7) pa_nil)) (nomark _))
 (pss_one (ps_ret pe_bl))
 pss_nil)
 (pss_cons (ps_set (i := 8) c_law_right.nd rfl (.inl rfl) (pe_call Dlaw_rings.G (hr.mono (by first | decide | omega)) rfl Dlaw_rings.g Dlaw_rings.kp Dlaw_rings.b .nil pass0 (pa_cons (pv 1) pa_nil)))
 (pss_cons (ps_if (pt_cmpR (op_eqNil hu) (pv 8) (pe_lst pa_nil) (nomark _))
 (pss_one (ps_ret pe_bl))
 pss_nil)
 (pss_cons (ps_set (i := 9) c_law_right.nd rfl (.inl rfl) (pe_call Dlaw_backward.G (hr.mono (by first | decide | omega)) rfl Dlaw_backward.g Dlaw_backward.kp Dlaw_backward.b .nil pass0 (pa_cons (pv 2) pa_nil)))
 (pss_cons (ps_for PassesOwn.never rfl (pi_range1 (by rfl) M.range (pa_cons pe_int pa_nil)) (pg_name (i := 4) c_law_right.nd rfl (.inl rfl))
 (pss_cons (ps_set (i := 10) c_law_right.nd rfl (.inl rfl) (pe_call Dlaw_of.G (hr.mono (by first | decide | omega)) rfl Dlaw_of.g Dlaw_of.kp Dlaw_of.b .nil pass0 (pa_cons (pv 0) (pa_cons (pv 8) pa_nil))))
 (pss_cons (ps_asg (pe_call Dlaw_around.G (hr.mono (by first | decide | omega)) rfl Dlaw_around.g Dlaw_around.kp Dlaw_around.b .nil pass0 (pa_cons (pv 2) (pa_cons (pv 10) pa_nil))) (pg_tup rfl (pgs_cons (pg_name (i := 11) c_law_right.nd rfl (.inl rfl)) (pgs_cons (pg_name (i := 12) c_law_right.nd rfl (.inl rfl)) pgs_nil))))
 (pss_cons (ps_set (i := 5) c_law_right.nd rfl (.inl rfl) (pe_lst (pa_cons (pe_call Dproducts.G (hr.mono (by first | decide | omega)) rfl Dproducts.g Dproducts.kp Dproducts.b .nil pass0 (pa_cons (pv 2) (pa_cons (pv 10) pa_nil))) (pa_cons (pe_call Dproducts.G (hr.mono (by first | decide | omega)) rfl Dproducts.g Dproducts.kp Dproducts.b .nil pass0 (pa_cons (pv 9) (pa_cons (pv 10) pa_nil))) (pa_cons (pe_callS2 (by exact Dproducts.G) (hr.mono (by first | decide | omega)) rfl Dproducts.g Dproducts.kp Nproducts (pk_cons (pv 10) (pk_cons (pv 2) pk_nil))) pa_nil)))))
 (pss_one (ps_if (pt_cmpR op_ne (pe_callB (call_repr hG hr) (by rfl) M.repr (by decide +kernel) (pa_cons (pv 5) pa_nil)) (pe_callB (call_repr hG hr) (by rfl) M.repr (by decide +kernel) (pa_cons (pe_lst (pa_cons (pe_tup (pa_cons (pv 11) (pa_cons (pv 12) pa_nil))) (pa_cons (pe_tup (pa_cons (pv 12) (pa_cons (pv 11) pa_nil))) (pa_cons (pe_tup (pa_cons (pv 11) (pa_cons (pv 12) pa_nil))) pa_nil)))) pa_nil)) (nomark _))
 (pss_one (ps_ret pe_bl))
 pss_nil))))))
 (pss_one (ps_ret pe_bl))))))))))))))), ?_⟩
    refine ⟨_, rfl, sz63 (by show 7 ≤ 1000; decide), fun t nt => ⟨w, l, t, _, rfl, hW.new nt, (hW.ne nt).1, .inr (.of upd_same), (by show 0 < 7; decide), (by show 7 < 1073741824; decide), fun H1 i v l1 e1 k1 W1 hl1 => ?_⟩⟩
    obtain ⟨n, n1, n5, rfl⟩ : ∃ n : Nat, 1 ≤ n ∧ n ≤ 5 ∧ v = .int (n : Nat) := by
      match i, e1 with
      | 0, e => exact ⟨4, by omega, by omega, (Option.some.inj e).symm⟩
      | 1, e => exact ⟨3, by omega, by omega, (Option.some.inj e).symm⟩
      | 2, e => exact ⟨5, by omega, by omega, (Option.some.inj e).symm⟩
      | 3, e => exact ⟨4, by omega, by omega, (Option.some.inj e).symm⟩
      | 4, e => exact ⟨2, by omega, by omega, (Option.some.inj e).symm⟩
      | 5, e => exact ⟨3, by omega, by omega, (Option.some.inj e).symm⟩
      | 6, e => exact ⟨1, by omega, by omega, (Option.some.inj e).symm⟩
      | i + 7, e => simp at e
    refine ⟨_, rfl, _, rfl, w, l1, n, rfl, n1, by omega, W1, fun H2 l2 vg m k2 W2 hl2 dg T ml St sm sz2 ⟨Mx, em, gd, pR, con⟩ => ?_⟩
    have wk := wk_of n1 (by omega) gd pR con
    subst em
    clear k1 k2 hl1 hl2 W1 e1 hW con pR gd
    -- things
    refine ⟨Nat.zero_le _, fun thA nth => ?_⟩
    have sT : Same H2 (upd H2 thA (.lst [])) := same_new nth
    have h3 : RtH (upd H2 thA (.lst [])) w l2 thA vg (tabD (walkM Mx)) [] [] := ⟨W2.same sT, upd_same, (W2.ne nth).1, (W2.ne nth).2, (dq_live nth dg).keep (Kp.same sT), .nil⟩
    generalize upd H2 thA (.lst []) = H3 at h3 ⊢
    clear dg W2 nth sT
    have wl := wk.len
    have bd : Bd 800 (tabD (walkM Mx)) := bd_tab.mpr fun r hr q hq => (sz2 r hr q hq).mono (by omega)
    have iw : IsWalk (tabD (walkM Mx)) := ⟨_, rfl, T, St, sm⟩
    refine ⟨3, rfl, by decide, by decide, ?_⟩
    refine for_range (lo := 0) (n := 3) (fun t σ H' => ∃ l' vs us y4, σ = [some (.ref w), some (.int (n : Nat)), some vg, some (.ref thA), y4, none, none, none, none, none, none, none, none] ∧ RtH H' w l' thA vg (tabD (walkM Mx)) vs (us.map natsD) ∧ us.length = t ∧ ∀ u ∈ us, u.length ≤ 7 ∧ 1 ≤ u.length ∧ ∀ x ∈ u, x < 6)
      ⟨l2, [], [], _, rfl, h3, rfl, fun u hu => by simp at hu⟩ ?_ ?_
    · rintro t σ H4 ht ⟨l4, vs, us, y4, rfl, h4, ul, hus⟩
      refine ⟨_, rfl, .inl ⟨rfl, _, .of h4.eT⟩, _, rfl, _, rfl, w, l4, n, rfl, n1, by omega, h4.W, fun H5 l5 p u k5 W5 hl5 pw ep u7 u1 ux => ?_⟩
      have h5 := h4.pick k5 W5 hl5
      have vl := h5.dv.length
      rw [List.length_map] at vl
      refine ⟨thA, _, _, rfl, rfl, h5.eT, sz63' (by omega), ?_⟩
      refine ⟨l5, _, us ++ [u], _, rfl, by rw [List.map_append]; exact h5.add (.tup (h5.ls.tup ep) ep (nats_dq u)), by rw [List.length_append, ul]; rfl, fun v hv => ?_⟩
      rcases List.mem_append.mp hv with hv | hv
      · exact hus v hv
      · have : v = u := by simpa using hv
        rw [this]
        exact ⟨u7, u1, ux⟩
    rintro σ H4 ⟨l4, vs, us, y4, rfl, h4, ul, hus⟩
    clear h3
    have vl := h4.dv.length
    rw [List.length_map, ul] at vl
    have e0 : vs[0]? = some (vs[0]'(by omega)) := List.getElem?_eq_getElem (by omega)
    obtain ⟨d0, hd0, dq0⟩ := h4.dv.at e0
    obtain ⟨u0, hu0, rfl⟩ := map_some hd0
    have us0 := hus u0 (List.mem_of_getElem? hu0)
    have ok0 := nats_ok us0.2.2 us0.1
    refine ⟨_, rfl, .inl ⟨rfl, _, .of h4.eT⟩, _, rfl, _, rfl, thA, _, 0, _, rfl, rfl, .of h4.eT, atI_nat (j := 0) e0, Sw w thA, w, l4, _, _, rfl, .inl rfl, h4.ls, h4.W, dq0, ok0.1, ok0.2.1, fun H5 l5 vb db k5 W5 hl5 dqb bb lb => ?_⟩
    have g5 := h4.pick k5 W5 hl5
    refine ⟨thA, _, _, rfl, rfl, g5.eT, sz63' (by omega), ?_⟩
    have h5 := g5.add dqb
    generalize upd H5 thA (.lst (vs ++ [vb])) = H5' at h5 ⊢
    refine ⟨_, rfl, .inl ⟨rfl, _, .of h5.eT⟩, _, rfl, w, l5, rfl, h5.W, fun H6 l6 vo dd k6 W6 hl6 dqo bo lo => ?_⟩
    have g6 := h5.pick k6 W6 hl6
    refine ⟨thA, _, _, rfl, rfl, g6.eT, sz63' (by rw [List.length_append]; show vs.length + 1 ≤ 1000; omega), ?_⟩
    have h6 := g6.add (dqo.weak h5.ls.old)
    generalize upd H6 thA (.lst (vs ++ [vb] ++ [vo])) = H6' at h6 ⊢
    have lnA : ∀ d ∈ us.map natsD ++ [db] ++ [dd], lnB d = true := fun d hd => by
      rcases List.mem_append.mp hd with hd | hd
      · rcases List.mem_append.mp hd with hd | hd
        · obtain ⟨u, hu, rfl⟩ := List.mem_map.mp hd
          have us1 := hus u hu
          exact (nats_ok us1.2.2 us1.1).2.2
        · have : d = db := by simpa using hd
          rw [this]
          exact lb
      · have : d = dd := by simpa using hd
        rw [this]
        exact lo
    have lA : (us.map natsD ++ [db] ++ [dd]).length = 5 := by
      rw [List.length_append, List.length_append, List.length_map, ul]
      rfl
    have vA : (vs ++ [vb] ++ [vo]).length = 5 := by
      rw [h6.dv.length, lA]
    generalize us.map natsD ++ [db] ++ [dd] = dsA at h6 lnA lA
    generalize vs ++ [vb] ++ [vo] = vsA at h6 vA
    clear h4 h5 g5 g6 dqb dqo bb bo lb lo hd0 hu0 us0 ok0 dq0 e0 vl ul hus
    have e1 : vsA[1]? = some (vsA[1]'(by omega)) := List.getElem?_eq_getElem (by omega)
    obtain ⟨d1, hd1, dq1⟩ := h6.dv.at e1
    generalize vsA[1]'(by omega) = v1 at e1 dq1
    have ln1 := lnA d1 (List.mem_of_getElem? hd1)
    -- told
    refine ⟨_, rfl, thA, rfl, ⟨vsA, .of h6.eT⟩, fun D nD => lc_rel (walk_list (K := K) (a := thA) (xs := vsA)) No (fun H i y => ∃ b, y = .bl b ∧ (dsA.map (rgB n))[i]? = some b) (fun _ _ _ _ _ r => r) nD (fun _ z => z.elim) (by omega)
      (fun H' k' => .of (no_same k' _ _ h6.eT)) ?_ ?_⟩
    · rintro i x H7 _ Q' hi k7 _ ⟨rfl, hx⟩ q'
      have h7 := h6.same (no_same k7)
      obtain ⟨d, hd, dx⟩ := h7.dv.at hx
      refine ⟨rfl, _, rfl, _, rfl, Sw w thA, Sw w thA, vg, x, walkM Mx, d, rfl, h7.dg, bd, iw, dx, lnA d (List.mem_of_getElem? hd), fun H8 b s8 hb => q' _ _ (Kp.same s8) ⟨b, rfl, ?_⟩⟩
      rw [wl] at hb
      rw [List.getElem?_map, hd, rgB_of hb]
      rfl
    rintro H7 acc k7 eD hla ha
    have s7 := no_same k7
    have h7 := h6.same s7
    rw [bls_of (bs := dsA.map (rgB n)) (by rw [hla, List.length_map]; omega) ha] at eD
    clear hla ha k7
    refine ⟨_, rfl, thA, _, 1, v1, rfl, rfl, .of h7.eT, atI_nat (j := 1) e1, _, rfl, v1, vg, rfl, Sw w thA, Sw w thA, vg, v1, walkM Mx, d1, rfl, h7.dg, bd, iw, dq1.keep (Kp.same s7), ln1, fun H8 b s8 hb => ⟨sz63 (by show 1 ≤ 1000; decide), fun L nL => ?_⟩⟩
    rw [wl] at hb
    obtain rfl := rgB_of hb
    clear hb
    have s9 : Same H8 (upd H8 L (.lst [.bl (rgB n d1)])) := same_new nL
    refine ⟨D, L, _, _, rfl, rfl, s9 _ _ (s8 _ _ eD), upd_same, sz63 (by rw [List.length_map, List.length_map]; show dsA.length + 1 ≤ 1000; omega), fun tA ntA => ?_⟩
    have eA : (upd (upd H8 L (.lst [.bl (rgB n d1)])) tA (.lst ((dsA.map (rgB n)).map V.bl ++ [.bl (rgB n d1)]))) tA = some (.lst ((dsA.map (rgB n) ++ [rgB n d1]).map V.bl)) := by
      rw [upd_same, List.map_append]
      rfl
    have hA := (h7.same (s8.trans s9)).same (same_new (o := .lst ((dsA.map (rgB n)).map V.bl ++ [.bl (rgB n d1)])) ntA)
    have sA : Same H6' (upd (upd H8 L (.lst [.bl (rgB n d1)])) tA (.lst ((dsA.map (rgB n)).map V.bl ++ [.bl (rgB n d1)]))) := ((s7.trans s8).trans s9).trans (same_new ntA)
    generalize upd (upd H8 L (.lst [.bl (rgB n d1)])) tA (.lst ((dsA.map (rgB n)).map V.bl ++ [.bl (rgB n d1)])) = HA at eA hA sA ⊢
    clear ntA s9 nL s8 eD h7 s7 nD
    -- due
    refine ⟨_, rfl, thA, rfl, ⟨vsA, .of hA.eT⟩, fun D nD => lc_rel (walk_list (K := K) (a := thA) (xs := vsA)) No (fun H i y => ∃ b, y = .bl b ∧ (dsA.map (rgB n))[i]? = some b) (fun _ _ _ _ _ r => r) nD (fun _ z => z.elim) (by omega)
      (fun H' k' => .of (no_same k' _ _ hA.eT)) ?_ ?_⟩
    · rintro i x H7 _ Q' hi k7 _ ⟨rfl, hx⟩ q'
      have h7 := hA.same (no_same k7)
      obtain ⟨d, hd, dx⟩ := h7.dv.at hx
      refine ⟨rfl, _, rfl, _, rfl, Sw w thA, x, d, n, rfl, dx, lnA d (List.mem_of_getElem? hd), fun H8 b s8 hb => q' _ _ (Kp.same s8) ⟨b, rfl, ?_⟩⟩
      rw [List.getElem?_map, hd, rgB_of hb]
      rfl
    rintro H7 acc k7 eD hla ha
    have s7 := no_same k7
    have h7 := hA.same s7
    rw [bls_of (bs := dsA.map (rgB n)) (by rw [hla, List.length_map]; omega) ha] at eD
    clear hla ha k7
    refine ⟨_, rfl, _, rfl, thA, _, 1, v1, rfl, rfl, .of h7.eT, atI_nat (j := 1) e1, Sw w thA, v1, d1, n, rfl, (dq1.keep (Kp.same sA)).keep (Kp.same s7), ln1, fun H8 b s8 hb => ⟨sz63 (by show 1 ≤ 1000; decide), fun L nL => ?_⟩⟩
    obtain rfl := rgB_of hb
    clear hb
    have s9 : Same H8 (upd H8 L (.lst [.bl (rgB n d1)])) := same_new nL
    refine ⟨D, L, _, _, rfl, rfl, s9 _ _ (s8 _ _ eD), upd_same, sz63 (by rw [List.length_map, List.length_map]; show dsA.length + 1 ≤ 1000; omega), fun tB ntB => ?_⟩
    have eB : (upd (upd H8 L (.lst [.bl (rgB n d1)])) tB (.lst ((dsA.map (rgB n)).map V.bl ++ [.bl (rgB n d1)]))) tB = some (.lst ((dsA.map (rgB n) ++ [rgB n d1]).map V.bl)) := by
      rw [upd_same, List.map_append]
      rfl
    have sB : Same HA (upd (upd H8 L (.lst [.bl (rgB n d1)])) tB (.lst ((dsA.map (rgB n)).map V.bl ++ [.bl (rgB n d1)]))) := ((s7.trans s8).trans s9).trans (same_new ntB)
    have hB := hA.same sB
    have eA2 := sB _ _ eA
    generalize upd (upd H8 L (.lst [.bl (rgB n d1)])) tB (.lst ((dsA.map (rgB n)).map V.bl ++ [.bl (rgB n d1)])) = HB at eB hB eA2 ⊢
    clear ntB s9 nL s8 eD h7 s7 nD hA eA sA sB dq1
    have bl6 : (dsA.map (rgB n) ++ [rgB n d1]).length = 6 := by
      rw [List.length_append, List.length_map, lA]
      rfl
    generalize dsA.map (rgB n) ++ [rgB n d1] = tb at eB eA2 bl6
    have R1 := repr_parts (bools_ok tb) (by decide) (by rw [List.length_map, bl6]; decide)
    refine ⟨_, rfl, fun _ => False, _, _, rfl, .lst (fun z => z) eA2 (.bls _), R1.1, R1.2.1, R1.2.2, _, rfl, fun _ => False, _, _, rfl, .lst (fun z => z) eB (.bls _), R1.1, R1.2.1, R1.2.2, ?_⟩
    refine ⟨rfl, _, rfl, ifF (by simp) ?_⟩
    -- loops
    have eg : Dq (At w) HB vg (tabD (walkM Mx)) := hB.dg.weak fun _ z => .inl z
    have WB := hB.W
    clear hB eA2 eB R1 bl6 h6 lnA lA vA e1 hd1 ln1
    refine ⟨_, rfl, n, rfl, n1, by omega, fun H7 rA ts s7 rA0 eR tp => ?_⟩
    have rAw : rA ≠ w := (WB.ne rA0).1
    refine ⟨_, rfl, Nat.zero_le _, fun b nb => ⟨rA, b, _, rfl, rfl, .of (same_new nb _ _ eR), .of upd_same, _, rfl, ?_⟩⟩
    have s8 := s7.trans (same_new (o := .lst []) nb)
    have eR8 := (same_new (o := .lst []) nb) _ _ eR
    have tp8 : TupN (upd H7 b (.lst [])) ts (fndN n (n - 1)) := tp.mono fun t xs e => (same_new nb) _ _ e
    generalize upd H7 b (.lst []) = H8 at s8 eR8 tp8 ⊢
    have W8 := WB.same s8
    have g8 := eg.keep (Kp.same s8)
    clear s7 eR tp nb eg WB
    by_cases tz : ts = []
    · subst tz
      exact ifT rfl (q H8 _ W8)
    refine ifF (fun z => ?_) ?_
    · cases ts with
      | nil => exact tz rfl
      | cons a r => cases z
    have tl0 : 0 < ts.length := List.length_pos_iff.mpr tz
    -- back
    refine ⟨_, rfl, At w, vg, n, Mx, rfl, g8, wk, fun vb H9 s9 db => ?_⟩
    obtain ⟨bw, ebf, bsz⟩ := back_walk wk
    have egf : walkM Mx = tabF n (chQ n (mf Mx)) := wk.tab
    have hw8 : Old H8 w := by
      obtain ⟨_, _, _, e, _⟩ := W8
      show H8 w ≠ none
      rw [e]
      exact fun z => nomatch z
    have b9 : Dq (At w) H9 vb (tabD (walkM (bkM n Mx))) := db.weak fun a z => by
      rw [show a = w from z]
      exact hw8
    have W9 := W8.same s9
    have g9 := g8.keep (Kp.same s9)
    have eR9 := s9 _ _ eR8
    have tp9 : TupN H9 ts (fndN n (n - 1)) := tp8.mono fun t xs e => s9 _ _ e
    have bb : Bd 800 (tabD (walkM (bkM n Mx))) := bd_tab.mpr fun r hr q hq => (bsz r hr q hq).mono (by omega)
    rw [egf] at g9 bd iw
    rw [ebf] at b9 bb bw
    clear db hw8 s9 W8 g8 eR8 tp8
    have tl := tp9.1
    have fl := fnd_len n (by omega) (n - 1) (by omega)
    refine ⟨3, rfl, by decide, by decide, ?_⟩
    refine for_range (lo := 0) (n := 3) (fun t σ H' => ∃ l' y4 y5 y10 y11 y12, σ = [some (.ref w), some (.int (n : Nat)), some vg, some (.ref thA), y4, y5, none, some (.ref tB), some (.ref rA), some vb, y10, y11, y12] ∧ WellAt w l' H' ∧ Dq (At w) H' vg (tabD (tabF n (chQ n (mf Mx)))) ∧
        Dq (At w) H' vb (tabD (tabF n (chQ n (mf (bkM n Mx))))) ∧ H' rA = some (.lst (ts.map V.ref)) ∧ TupN H' ts (fndN n (n - 1)))
      ⟨_, _, _, _, _, _, rfl, W9, g9, b9, eR9, tp9⟩ ?_ ?_
    · clear W9 g9 b9 eR9 tp9
      rintro t σ H1 ht ⟨l1, y4, y5, y10, y11, y12, rfl, W1, g1, b1, eR1, tp1⟩
      refine ⟨_, rfl, _, rfl, w, l1, rA, _, rfl, W1, rAw, .inl (.of eR1), by rw [List.length_map]; exact tl0, by rw [List.length_map]; omega, fun H2 i v l2 ev k2 W2 hl2 => ?_⟩
      obtain ⟨tt, htt, rfl⟩ := map_some ev
      have il : i < (fndN n (n - 1)).length := by
        have := (List.getElem?_eq_some_iff.mp htt).1
        omega
      have ew : (fndN n (n - 1))[i]? = some (fndN n (n - 1))[i] := List.getElem?_eq_getElem il
      generalize (fndN n (n - 1))[i] = u at ew
      have rg := fnd_ok n (by omega) u (List.mem_of_getElem? ew)
      obtain ⟨rw0, u6⟩ := ring_of rg
      have tp2 : TupN H2 ts (fndN n (n - 1)) := tp1.mono fun t xs e => k2 _ _ (W1.notTup e) e
      have et2 := tp2.2 i tt u htt ew
      have g2 := g1.keep k2
      have b2 := b1.keep k2
      have eR2 := k2 _ _ rAw eR1
      clear W1 g1 b1 eR1 tp1 k2 hl2 ev
      have sf : ∀ i j, i < n → j < n → Bq.Sz 770 (chQ n (mf Mx) i j) := fun i j hi hj => (wk.ch23 hi hj).mono (by omega)
      have sb : ∀ i j, i < n → j < n → Bq.Sz 770 (chQ n (mf (bkM n Mx)) i j) := fun i j hi hj => by
        rw [wk.bk_ch hi hj]
        exact wk.bk_sz2 hi hj
      have l3 := rw0.l
      -- forth, the other way
      refine ⟨_, rfl, _, rfl, At w, vg, n, _, tt, u, rfl, g2, et2, rw0.lt, by omega, u6, by omega, sf, fun v' H3 s3 dv => ?_⟩
      obtain ⟨p, xs, rfl, np, ep, ed⟩ := dv.tupI
      obtain ⟨x, y, rfl, dx, dy⟩ := ed.two
      refine ⟨p, _, rfl, .of ep, rfl, _, _, rfl, _, _, rfl, rfl, ?_⟩
      have nw : ∀ {H' : Hp} {a : Addr} {ys : List V}, WellAt w l2 H' → H' a = some (.tup ys) → ¬ At w a := fun W e z => W.notTup e z
      have W3 := W2.same s3
      have et3 := s3 _ _ et2
      have dl3 : Dq (At w) H3 (.ref tt) (natsD u) := .tup (nw W3 et3) et3 (nats_dq u)
      have g3 := g2.keep (Kp.same s3)
      have b3 := b2.keep (Kp.same s3)
      -- told
      refine ⟨_, rfl, _, rfl, At w, At w, vg, n, _, tt, u, rfl, g3, bd, iw, dl3, rw0, u6, by omega, sf, fun v1 H4 s4 d1 => ?_⟩
      refine ⟨_, rfl, _, rfl, At w, At w, vb, n, _, tt, u, rfl, b3.keep (Kp.same s4), bb, bw, dl3.keep (Kp.same s4), rw0, u6, by omega, sb, fun v2 H5 s5 d2 => ?_⟩
      have s35 := s4.trans s5
      refine ⟨_, rfl, _, rfl, .ref tt, vg, rfl, At w, At w, vg, n, _, tt, u, rfl, g3.keep (Kp.same s35), bd, iw, dl3.keep (Kp.same s35), rw0, u6, by omega, sf, fun v3 H6 s6 d3 => ⟨sz63 (by show 3 ≤ 1000; decide), fun L nL => ?_⟩⟩
      have tu := wk.turned rw0.lt
      have zA : Bq.Sz 1900 (fw (chQ n (mf Mx)) (stp u)) := fw_sz6 (fun p hp => wk.ch23 (rw0.lt _ (stp_mem hp).1) (rw0.lt _ (stp_mem hp).2)) u6
      have zB : Bq.Sz 1900 (fw (fun x y => chQ n (mf Mx) y x) (stp u)) := fw_sz6 (fun p hp => wk.ch23 (rw0.lt _ (stp_mem hp).2) (rw0.lt _ (stp_mem hp).1)) u6
      have pb : pairD (chQ n (mf (bkM n Mx))) u = .tuple [frD (fw (fun x y => chQ n (mf Mx) y x) (stp u)), frD (fw (chQ n (mf Mx)) (stp u))] := by
        unfold pairD
        rw [tu.1, tu.2]
      have pf : pairD (chQ n (mf Mx)) u = .tuple [frD (fw (chQ n (mf Mx)) (stp u)), frD (fw (fun x y => chQ n (mf Mx) y x) (stp u))] := rfl
      rw [pf] at d1 d3
      rw [pb] at d2
      have okf := pair_ok zA zB
      have okb := pair_ok zB zA
      generalize frD (fw (chQ n (mf Mx)) (stp u)) = fA at d1 d2 d3 dx okf okb
      generalize frD (fw (fun x y => chQ n (mf Mx) y x) (stp u)) = fB at d1 d2 d3 dy okf okb
      clear tu zA zB pb pf
      have s7 : Same H6 (upd H6 L (.lst [v1, v2, v3])) := same_new nL
      have eL : (upd H6 L (.lst [v1, v2, v3])) L = some (.lst [v1, v2, v3]) := upd_same
      generalize upd H6 L (.lst [v1, v2, v3]) = H7 at s7 eL ⊢
      have s37 := (s35.trans s6).trans s7
      have fls : ∀ {S : Addr → Prop} {H' : Hp} {v : V} {d : PyData}, Dq S H' v d → Dq (fun _ => False) H' v d := fun h => h.weak fun _ z => z.elim
      have dL : DqAll (fun _ => False) H7 [v1, v2, v3] [.tuple [fA, fB], .tuple [fB, fA], .tuple [fA, fB]] :=
        .cons ((fls d1).keep (Kp.same ((s5.trans s6).trans s7))) (.cons ((fls d2).keep (Kp.same (s6.trans s7))) (.cons ((fls d3).keep (Kp.same s7)) .nil))
      have dx7 : Dq (fun _ => False) H7 x fA := (fls dx).keep (Kp.same s37)
      have dy7 : Dq (fun _ => False) H7 y fB := (fls dy).keep (Kp.same s37)
      have R1 := repr_parts (ds := [.tuple [fA, fB], .tuple [fB, fA], .tuple [fA, fB]]) (n := 10000) (fun d hd => by
        rcases List.mem_cons.mp hd with rfl | hd
        · exact okf
        · rcases List.mem_cons.mp hd with rfl | hd
          · exact okb
          · rw [List.mem_singleton.mp hd]
            exact okf) (by decide) (by show 3 ≤ 100; decide)
      refine ⟨_, rfl, fun _ => False, _, _, rfl, .lst (fun z => z) eL dL, R1.1, R1.2.1, R1.2.2, ?_⟩
      refine ⟨_, rfl, _, rfl, sz63 (by show 2 ≤ 1000; decide), fun t1 nt1 => ⟨_, rfl, _, rfl, sz63 (by show 2 ≤ 1000; decide), fun t2 nt2 => ⟨_, rfl, _, rfl, sz63 (by show 2 ≤ 1000; decide), fun t3 nt3 => ⟨sz63 (by show 3 ≤ 1000; decide), fun L2 nL2 => ?_⟩⟩⟩⟩
      have c1 : Same H7 (upd H7 t1 (.tup [x, y])) := same_new nt1
      have c2 : Same (upd H7 t1 (.tup [x, y])) (upd (upd H7 t1 (.tup [x, y])) t2 (.tup [y, x])) := same_new nt2
      have c3 : Same (upd (upd H7 t1 (.tup [x, y])) t2 (.tup [y, x])) (upd (upd (upd H7 t1 (.tup [x, y])) t2 (.tup [y, x])) t3 (.tup [x, y])) := same_new nt3
      have c4 : Same (upd (upd (upd H7 t1 (.tup [x, y])) t2 (.tup [y, x])) t3 (.tup [x, y])) (upd (upd (upd (upd H7 t1 (.tup [x, y])) t2 (.tup [y, x])) t3 (.tup [x, y])) L2 (.lst [.ref t1, .ref t2, .ref t3])) := same_new nL2
      have f1 := (c2.trans (c3.trans c4)) _ _ (show (upd H7 t1 (.tup [x, y])) t1 = some (.tup [x, y]) from upd_same)
      have f2 := (c3.trans c4) _ _ (show (upd (upd H7 t1 (.tup [x, y])) t2 (.tup [y, x])) t2 = some (.tup [y, x]) from upd_same)
      have f3 := c4 _ _ (show (upd (upd (upd H7 t1 (.tup [x, y])) t2 (.tup [y, x])) t3 (.tup [x, y])) t3 = some (.tup [x, y]) from upd_same)
      have f4 : (upd (upd (upd (upd H7 t1 (.tup [x, y])) t2 (.tup [y, x])) t3 (.tup [x, y])) L2 (.lst [.ref t1, .ref t2, .ref t3])) L2 = some (.lst [.ref t1, .ref t2, .ref t3]) := upd_same
      have c14 := c1.trans (c2.trans (c3.trans c4))
      generalize upd (upd (upd (upd H7 t1 (.tup [x, y])) t2 (.tup [y, x])) t3 (.tup [x, y])) L2 (.lst [.ref t1, .ref t2, .ref t3]) = H8 at f1 f2 f3 f4 c14 ⊢
      have dx8 := dx7.keep (Kp.same c14)
      have dy8 := dy7.keep (Kp.same c14)
      have dM : DqAll (fun _ => False) H8 [.ref t1, .ref t2, .ref t3] [.tuple [fA, fB], .tuple [fB, fA], .tuple [fA, fB]] :=
        .cons (.tup (fun z => z) f1 (.cons dx8 (.cons dy8 .nil))) (.cons (.tup (fun z => z) f2 (.cons dy8 (.cons dx8 .nil))) (.cons (.tup (fun z => z) f3 (.cons dx8 (.cons dy8 .nil))) .nil))
      refine ⟨fun _ => False, _, _, rfl, .lst (fun z => z) f4 dM, R1.1, R1.2.1, R1.2.2, rfl, _, rfl, ifF (by simp) ?_⟩
      have s28 := (s3.trans s37).trans c14
      exact ⟨l2, _, _, _, _, _, rfl, W2.same s28, g2.keep (Kp.same s28), b2.keep (Kp.same s28), s28 _ _ eR2, tp2.mono fun t xs e => s28 _ _ e⟩
    · rintro σ H1 ⟨l1, y4, y5, y10, y11, y12, rfl, W1, _⟩
      exact q H1 l1 W1
/-! ### the law -/
def spLaw (K : PySem.W.Frag) : Sp := fun vs H Q _ => ∃ (a : Addr) (ns : List Int), vs = [.ref a] ∧ SqL K H a (ns.map V.int) ∧ ns.length ≤ 63 ∧ ∀ H', Q (.bl true) H'
theorem ok_law {f : Addr} {fd : FuncData} (F : Fun K "law" "law" slaw f fd) (M : Mb mg) (Dlaw_well : Df P w K mg base 1 "_law_well" ["script", "salt"] (spWell K)) (Dlaw_right : Dg P w K mg base 10 "_law_right" ["well"] spRight) :
    FnG P w K mg base 11 f fd ["script"] (spLaw K) := by
  refine okG F claw (fun vs H Q E h => ?_) (fun cdv _ outer s H vs Q E hG hr h => ?_)
  · obtain ⟨a, ns, rfl, _⟩ := h
    rfl
  · obtain ⟨a, ns, rfl, hS, hlen, q⟩ := h
    refine ⟨_, (pss_cons (ps_set (i := 1) claw.nd rfl (.inl rfl) (pe_call Dlaw_well.G (hr.mono (by first | decide | omega)) rfl Dlaw_well.g Dlaw_well.kp Dlaw_well.b .nil pass0 (pa_cons (pv 0) (pa_cons pe_int pa_nil))))
 (pss_cons (ps_for PassesOwn.never rfl (pi_range1 (by rfl) M.range (pa_cons pe_int pa_nil)) (pg_name (i := 2) claw.nd rfl (.inl rfl))
 (pss_one (ps_if (pt_not (pt_val (pe_callG Dlaw_right.G hG (hr.mono (by first | decide | omega)) rfl Dlaw_right.g Dlaw_right.kp Dlaw_right.b (pa_cons (pv 1) pa_nil))))
 (pss_one (ps_ret pe_bl))
 pss_nil)))
 (pss_one (ps_ret pe_bl)))), ?_⟩
    refine ⟨_, rfl, a, ns, 7, rfl, hS, hlen, fun H1 w n1 s1 W1 => ?_⟩
    obtain ⟨l1, W1⟩ := W1
    refine ⟨3, rfl, by decide, by decide, for_range (lo := 0) (n := 3) (fun i σ H' => ∃ y l', σ = [some (.ref a), some (.ref w), y] ∧ WellAt w l' H') ⟨none, l1, rfl, W1⟩ ?_ ?_⟩
    · rintro i σ H2 hi ⟨y, l2, rfl, W2⟩
      exact ⟨_, rfl, w, l2, rfl, W2, fun H3 l3 W3 => ⟨_, rfl, ifF (by simp) ⟨_, l3, rfl, W3⟩⟩⟩
    · rintro σ H2 ⟨y, l2, rfl, W2⟩
      exact q H2
end
end Kx
/-! What the top has written; the end. -/
namespace Kx
open PySem PySem.Spec PyProof.Rows L2 Bw
/-- a def as the top has written it -/
def DefR (K : PySem.W.Frag) (x : Str) (st : Stmt) : Prop := ∃ (f : Addr) (oc : Value) (od : Option Addr) (kV doc pm : Value) (an : Option Addr) (cdv ct : Value) (osl : Array (Option Value)),
  PySem.W.nsIn K mainGlobals x = some (some (.ref f)) ∧ K.lookup f = some ⟨oc, od, .func (PySem.W.fnOf x x (defArgs st) (defBody st) (defScope st) .none kV doc pm an cdv ct), osl⟩ ∧ PySem.W.codeIn K cdv x = true ∧
  PySem.W.keepIn K (.ref f) = true
/-- a pair that stands at the top -/
def PairR (K : PySem.W.Frag) (x : Str) (i j : Int) : Prop := ∃ (a : Addr) (dd : Option Addr) (t u : Tok) (n : Nat) (sl : Array (Option Value)), PySem.W.nsIn K mainGlobals x = some (some (.ref a)) ∧ K.lookup a = some ⟨.type "tuple", dd, .seq #[.int i t, .int j u] n, sl⟩
section
variable {P : Program} {w : World} {K : PySem.W.Frag} {mg : Str → Option Value} {base h : Heap}
theorem def_of {x : Str} {st : Stmt} (X : K.In h) (G : h.Ns mainGlobals mg) (r : DefR K x st) : ∃ f fd, Fun K x x st f fd ∧ mg x = some (.ref f) := by
  obtain ⟨f, oc, od, kV, doc, pm, an, cdv, ct, osl, a, l, c, k⟩ := r
  exact ⟨f, _, fun_mk (st := st) l c k, PySem.W.mg_of X G a⟩
theorem pair_of {x : Str} {i j : Int} (X : K.In h) (G : h.Ns mainGlobals mg) (r : PairR K x i j) : ∃ a, mg x = some (.ref a) ∧ ∀ H, SqT K H a [.int i, .int j] := by
  obtain ⟨a, dd, t, u, n, sl, h1, h2⟩ := r
  exact ⟨a, PySem.W.mg_of X G h1, fun H => .inr ⟨_, _, n, h2, rfl, rfl, sz63 (by show 2 ≤ 1000; decide), .cons ⟨t, rfl⟩ (.cons ⟨u, rfl⟩ .nil)⟩⟩
theorem kwn_of {x : Str} {st : Stmt} {f : Addr} {fd : FuncData} {ps : List Str} (F : Fun K x x st f fd) (hh : ∀ (kV doc pm : Value) (an : Option Addr) (cdv ct : Value) (ws : List Value), ws.length = ps.length →
    bindArgs (PySem.W.fnOf x x (defArgs st) (defBody st) (defScope st) .none kV doc pm an cdv ct) ⟨[], ps.zip ws⟩ = pure (ps.zip ws)) : ∀ (s : Shared) (ws : List Value), K.In s.heap → ws.length = ps.length → BindsTo s fd ⟨[], ps.zip ws⟩ (ps.zip ws) := by
  obtain ⟨oc, od, kV, doc, pm, an, cdv, ct, osl, rfl, _, _⟩ := F.ex
  exact fun s ws _ hl => .of_eq (hh kV doc pm an cdv ct ws hl)
theorem kwn2_of {x : Str} {st : Stmt} {f : Addr} {fd : FuncData} {x1 x2 : Str} (F : Fun K x x st f fd) (hh : ∀ (kV doc pm : Value) (an : Option Addr) (cdv ct a b : Value),
    bindArgs (PySem.W.fnOf x x (defArgs st) (defBody st) (defScope st) .none kV doc pm an cdv ct) ⟨[], [(x2, a), (x1, b)]⟩ = pure [(x1, b), (x2, a)]) : ∀ (s : Shared) (a b : Value), K.In s.heap → BindsTo s fd ⟨[], [(x2, a), (x1, b)]⟩ [(x1, b), (x2, a)] := by
  obtain ⟨oc, od, kV, doc, pm, an, cdv, ct, osl, rfl, _, _⟩ := F.ex
  exact fun s a b _ => .of_eq (hh kV doc pm an cdv ct a b)
theorem law_binds {f : Addr} {fd : FuncData} (F : Fun K "law" "law" slaw f fd) (s : Shared) (u : Value) : BindsTo s fd ⟨[u], []⟩ [("script", u)] := by
  obtain ⟨oc, od, kV, doc, pm, an, cdv, ct, osl, rfl, _, _⟩ := F.ex
  exact .of_eq rfl
/-- all defs -/
theorem all_mk {fa : Addr} (X : K.In h) (G : h.Ns mainGlobals mg) (hfa : mg "law" = some (.ref fa))
    (dis_whole : DefR K "is_whole" sis_whole)
    (dis_place : DefR K "is_place" sis_place)
    (dis_fraction : DefR K "is_fraction" sis_fraction)
    (dis_from_nil : DefR K "is_from_nil" sis_from_nil)
    (dlowest : DefR K "lowest" slowest)
    (dplus : DefR K "plus" splus)
    (dtotal : DefR K "total" stotal)
    (dproduct_of : DefR K "product_of" sproduct_of)
    (dis_table_row : DefR K "is_table_row" sis_table_row)
    (dis_table : DefR K "is_table" sis_table)
    (dleads_to_all : DefR K "leads_to_all" sleads_to_all)
    (dis_whole_table : DefR K "is_whole_table" sis_whole_table)
    (dis_walk : DefR K "is_walk" sis_walk)
    (dcheck_walk : DefR K "check_walk" scheck_walk)
    (dis_way : DefR K "is_way" sis_way)
    (dis_ring : DefR K "is_ring" sis_ring)
    (dring_products : DefR K "ring_products" sring_products)
    (dproducts : DefR K "products" sproducts)
    (d_law_well : DefR K "_law_well" s_law_well)
    (d_law_pick : DefR K "_law_pick" s_law_pick)
    (d_law_of : DefR K "_law_of" s_law_of)
    (d_law_frac : DefR K "_law_frac" s_law_frac)
    (d_law_plus : DefR K "_law_plus" s_law_plus)
    (d_law_times : DefR K "_law_times" s_law_times)
    (d_law_over : DefR K "_law_over" s_law_over)
    (d_law_total : DefR K "_law_total" s_law_total)
    (d_law_over_sum : DefR K "_law_over_sum" s_law_over_sum)
    (d_law_ears : DefR K "_law_ears" s_law_ears)
    (d_law_part : DefR K "_law_part" s_law_part)
    (d_law_walk : DefR K "_law_walk" s_law_walk)
    (d_law_shares : DefR K "_law_shares" s_law_shares)
    (d_law_flows : DefR K "_law_flows" s_law_flows)
    (d_law_backward : DefR K "_law_backward" s_law_backward)
    (d_law_rings : DefR K "_law_rings" s_law_rings)
    (d_law_around : DefR K "_law_around" s_law_around)
    (d_law_is_number : DefR K "_law_is_number" s_law_is_number)
    (d_law_is_frac : DefR K "_law_is_frac" s_law_is_frac)
    (d_law_odd : DefR K "_law_odd" s_law_odd)
    (d_law_bent : DefR K "_law_bent" s_law_bent)
    (d_law_is_ring : DefR K "_law_is_ring" s_law_is_ring)
    (d_law_loop : DefR K "_law_loop" s_law_loop)
    (d_law_right : DefR K "_law_right" s_law_right)
    (dlaw : DefR K "law" slaw)
    (zint : PySem.W.nsIn K mainGlobals "int" = some none)
    (zlen : PySem.W.nsIn K mainGlobals "len" = some none)
    (zabs : PySem.W.nsIn K mainGlobals "abs" = some none)
    (zdivmod : PySem.W.nsIn K mainGlobals "divmod" = some none)
    (zrange : PySem.W.nsIn K mainGlobals "range" = some none)
    (zenumerate : PySem.W.nsIn K mainGlobals "enumerate" = some none)
    (zisinstance : PySem.W.nsIn K mainGlobals "isinstance" = some none)
    (zrepr : PySem.W.nsIn K mainGlobals "repr" = some none)
    (ztuple : PySem.W.nsIn K mainGlobals "tuple" = some none)
    (zlist : PySem.W.nsIn K mainGlobals "list" = some none)
    (zall : PySem.W.nsIn K mainGlobals "all" = some none)
    (zzip : PySem.W.nsIn K mainGlobals "zip" = some none)
    (zstr : PySem.W.nsIn K mainGlobals "str" = some none)
    (zbool : PySem.W.nsIn K mainGlobals "bool" = some none)
    (zset : PySem.W.nsIn K mainGlobals "set" = some none)
    (zmin : PySem.W.nsIn K mainGlobals "min" = some none)
    (zmax : PySem.W.nsIn K mainGlobals "max" = some none)
    (zsorted : PySem.W.nsIn K mainGlobals "sorted" = some none)
    (pn : PairR K "NIL" 0 1) (po : PairR K "ONE" 1 1) (pg : PySem.W.nsIn K mainGlobals "gcd" = some (some (.builtin "math.gcd"))) (pm : ∃ t : Tok, PySem.W.nsIn K mainGlobals "MOST_PLACES" = some (some (.int 6 t))) (ps : ∃ t : Tok, PySem.W.nsIn K mainGlobals "SHORTEST" = some (some (.int 3 t)))
    : ∃ fd : FuncData, (∀ (s : Shared) (u : Value), BindsTo s fd ⟨[u], []⟩ [("script", u)]) ∧ ∀ base : Heap, K.In base → base.Ns mainGlobals mg → FnG P w K mg base 11 fa fd ["script"] (spLaw K) := by
  have M : Mb mg := ⟨PySem.W.mg_none_of X G zint, PySem.W.mg_none_of X G zlen, PySem.W.mg_none_of X G zabs, PySem.W.mg_none_of X G zdivmod, PySem.W.mg_none_of X G zrange, PySem.W.mg_none_of X G zenumerate, PySem.W.mg_none_of X G zisinstance, PySem.W.mg_none_of X G zrepr, PySem.W.mg_none_of X G ztuple, PySem.W.mg_none_of X G zlist, PySem.W.mg_none_of X G zall, PySem.W.mg_none_of X G zzip, PySem.W.mg_none_of X G zstr, PySem.W.mg_none_of X G zbool, PySem.W.mg_none_of X G zset, PySem.W.mg_none_of X G zmin, PySem.W.mg_none_of X G zmax, PySem.W.mg_none_of X G zsorted⟩
  obtain ⟨an, gn, tn⟩ := pair_of X G pn
  obtain ⟨ao, go, to⟩ := pair_of X G po
  obtain ⟨tm, gm⟩ := pm
  obtain ⟨ts, gs⟩ := ps
  let Z : Mp K mg := ⟨PySem.W.mg_of X G pg, an, gn, tn, ao, go, to, tm, PySem.W.mg_of X G gm⟩
  let Y : Mq mg := ⟨ts, PySem.W.mg_of X G gs⟩
  obtain ⟨fis_whole, fdis_whole, Fis_whole, gis_whole⟩ := def_of X G dis_whole
  obtain ⟨fis_place, fdis_place, Fis_place, gis_place⟩ := def_of X G dis_place
  obtain ⟨fis_fraction, fdis_fraction, Fis_fraction, gis_fraction⟩ := def_of X G dis_fraction
  obtain ⟨fis_from_nil, fdis_from_nil, Fis_from_nil, gis_from_nil⟩ := def_of X G dis_from_nil
  obtain ⟨flowest, fdlowest, Flowest, glowest⟩ := def_of X G dlowest
  obtain ⟨fplus, fdplus, Fplus, gplus⟩ := def_of X G dplus
  obtain ⟨ftotal, fdtotal, Ftotal, gtotal⟩ := def_of X G dtotal
  obtain ⟨fproduct_of, fdproduct_of, Fproduct_of, gproduct_of⟩ := def_of X G dproduct_of
  obtain ⟨fis_table_row, fdis_table_row, Fis_table_row, gis_table_row⟩ := def_of X G dis_table_row
  obtain ⟨fis_table, fdis_table, Fis_table, gis_table⟩ := def_of X G dis_table
  obtain ⟨fleads_to_all, fdleads_to_all, Fleads_to_all, gleads_to_all⟩ := def_of X G dleads_to_all
  obtain ⟨fis_whole_table, fdis_whole_table, Fis_whole_table, gis_whole_table⟩ := def_of X G dis_whole_table
  obtain ⟨fis_walk, fdis_walk, Fis_walk, gis_walk⟩ := def_of X G dis_walk
  obtain ⟨fcheck_walk, fdcheck_walk, Fcheck_walk, gcheck_walk⟩ := def_of X G dcheck_walk
  obtain ⟨fis_way, fdis_way, Fis_way, gis_way⟩ := def_of X G dis_way
  obtain ⟨fis_ring, fdis_ring, Fis_ring, gis_ring⟩ := def_of X G dis_ring
  obtain ⟨fring_products, fdring_products, Fring_products, gring_products⟩ := def_of X G dring_products
  obtain ⟨fproducts, fdproducts, Fproducts, gproducts⟩ := def_of X G dproducts
  obtain ⟨f_law_well, fd_law_well, F_law_well, g_law_well⟩ := def_of X G d_law_well
  obtain ⟨f_law_pick, fd_law_pick, F_law_pick, g_law_pick⟩ := def_of X G d_law_pick
  obtain ⟨f_law_of, fd_law_of, F_law_of, g_law_of⟩ := def_of X G d_law_of
  obtain ⟨f_law_frac, fd_law_frac, F_law_frac, g_law_frac⟩ := def_of X G d_law_frac
  obtain ⟨f_law_plus, fd_law_plus, F_law_plus, g_law_plus⟩ := def_of X G d_law_plus
  obtain ⟨f_law_times, fd_law_times, F_law_times, g_law_times⟩ := def_of X G d_law_times
  obtain ⟨f_law_over, fd_law_over, F_law_over, g_law_over⟩ := def_of X G d_law_over
  obtain ⟨f_law_total, fd_law_total, F_law_total, g_law_total⟩ := def_of X G d_law_total
  obtain ⟨f_law_over_sum, fd_law_over_sum, F_law_over_sum, g_law_over_sum⟩ := def_of X G d_law_over_sum
  obtain ⟨f_law_ears, fd_law_ears, F_law_ears, g_law_ears⟩ := def_of X G d_law_ears
  obtain ⟨f_law_part, fd_law_part, F_law_part, g_law_part⟩ := def_of X G d_law_part
  obtain ⟨f_law_walk, fd_law_walk, F_law_walk, g_law_walk⟩ := def_of X G d_law_walk
  obtain ⟨f_law_shares, fd_law_shares, F_law_shares, g_law_shares⟩ := def_of X G d_law_shares
  obtain ⟨f_law_flows, fd_law_flows, F_law_flows, g_law_flows⟩ := def_of X G d_law_flows
  obtain ⟨f_law_backward, fd_law_backward, F_law_backward, g_law_backward⟩ := def_of X G d_law_backward
  obtain ⟨f_law_rings, fd_law_rings, F_law_rings, g_law_rings⟩ := def_of X G d_law_rings
  obtain ⟨f_law_around, fd_law_around, F_law_around, g_law_around⟩ := def_of X G d_law_around
  obtain ⟨f_law_is_number, fd_law_is_number, F_law_is_number, g_law_is_number⟩ := def_of X G d_law_is_number
  obtain ⟨f_law_is_frac, fd_law_is_frac, F_law_is_frac, g_law_is_frac⟩ := def_of X G d_law_is_frac
  obtain ⟨f_law_odd, fd_law_odd, F_law_odd, g_law_odd⟩ := def_of X G d_law_odd
  obtain ⟨f_law_bent, fd_law_bent, F_law_bent, g_law_bent⟩ := def_of X G d_law_bent
  obtain ⟨f_law_is_ring, fd_law_is_ring, F_law_is_ring, g_law_is_ring⟩ := def_of X G d_law_is_ring
  obtain ⟨f_law_loop, fd_law_loop, F_law_loop, g_law_loop⟩ := def_of X G d_law_loop
  obtain ⟨f_law_right, fd_law_right, F_law_right, g_law_right⟩ := def_of X G d_law_right
  obtain ⟨flaw, fdlaw, Flaw, glaw⟩ := def_of X G dlaw
  have e := hfa.symm.trans glaw
  cases e
  refine ⟨fdlaw, law_binds Flaw, fun base _ _ => ?_⟩
  let Dis_whole : Df P w K mg base 1 "is_whole" ["value"] _ := ⟨fis_whole, fdis_whole, gis_whole, Fis_whole.kp, (Fis_whole.binds (ps := ["value"]) fun _ _ _ _ _ _ us hl => match us, hl with | [_], _ => rfl), ok_is_whole Fis_whole M⟩
  let Dis_place : Df P w K mg base 2 "is_place" ["value", "many"] _ := ⟨fis_place, fdis_place, gis_place, Fis_place.kp, (Fis_place.binds (ps := ["value", "many"]) fun _ _ _ _ _ _ us hl => match us, hl with | [_, _], _ => rfl), ok_is_place Fis_place M Dis_whole⟩
  let Dis_fraction : Df P w K mg base 2 "is_fraction" ["value"] _ := ⟨fis_fraction, fdis_fraction, gis_fraction, Fis_fraction.kp, (Fis_fraction.binds (ps := ["value"]) fun _ _ _ _ _ _ us hl => match us, hl with | [_], _ => rfl), ok_is_fraction Fis_fraction M Z Dis_whole⟩
  let Dis_from_nil : Df P w K mg base 3 "is_from_nil" ["value"] _ := ⟨fis_from_nil, fdis_from_nil, gis_from_nil, Fis_from_nil.kp, (Fis_from_nil.binds (ps := ["value"]) fun _ _ _ _ _ _ us hl => match us, hl with | [_], _ => rfl), ok_is_from_nil Fis_from_nil M Dis_fraction⟩
  let Dlowest : Df P w K mg base 1 "lowest" ["top", "bottom"] _ := ⟨flowest, fdlowest, glowest, Flowest.kp, (Flowest.binds (ps := ["top", "bottom"]) fun _ _ _ _ _ _ us hl => match us, hl with | [_, _], _ => rfl), ok_lowest Flowest M Z⟩
  let Dplus : Df P w K mg base 2 "plus" ["one", "other"] _ := ⟨fplus, fdplus, gplus, Fplus.kp, (Fplus.binds (ps := ["one", "other"]) fun _ _ _ _ _ _ us hl => match us, hl with | [_, _], _ => rfl), ok_plus Fplus M Dlowest⟩
  let Dtotal : Df P w K mg base 3 "total" ["fractions"] _ := ⟨ftotal, fdtotal, gtotal, Ftotal.kp, (Ftotal.binds (ps := ["fractions"]) fun _ _ _ _ _ _ us hl => match us, hl with | [_], _ => rfl), ok_total Ftotal M Z Dplus⟩
  let Dproduct_of : Df P w K mg base 2 "product_of" ["fractions"] _ := ⟨fproduct_of, fdproduct_of, gproduct_of, Fproduct_of.kp, (Fproduct_of.binds (ps := ["fractions"]) fun _ _ _ _ _ _ us hl => match us, hl with | [_], _ => rfl), ok_prod Fproduct_of M Dlowest⟩
  let Dis_table_row : Df P w K mg base 4 "is_table_row" ["value", "many"] _ := ⟨fis_table_row, fdis_table_row, gis_table_row, Fis_table_row.kp, (Fis_table_row.binds (ps := ["value", "many"]) fun _ _ _ _ _ _ us hl => match us, hl with | [_, _], _ => rfl), ok_is_table_row Fis_table_row M Dis_from_nil⟩
  let Dis_table : Df P w K mg base 5 "is_table" ["value"] _ := ⟨fis_table, fdis_table, gis_table, Fis_table.kp, (Fis_table.binds (ps := ["value"]) fun _ _ _ _ _ _ us hl => match us, hl with | [_], _ => rfl), ok_is_table Fis_table M Z Dis_table_row⟩
  let Dleads_to_all : Df P w K mg base 1 "leads_to_all" ["links"] _ := ⟨fleads_to_all, fdleads_to_all, gleads_to_all, Fleads_to_all.kp, (Fleads_to_all.binds (ps := ["links"]) fun _ _ _ _ _ _ us hl => match us, hl with | [_], _ => rfl), ok_leads Fleads_to_all M⟩
  let Dis_whole_table : Df P w K mg base 2 "is_whole_table" ["table"] _ := ⟨fis_whole_table, fdis_whole_table, gis_whole_table, Fis_whole_table.kp, (Fis_whole_table.binds (ps := ["table"]) fun _ _ _ _ _ _ us hl => match us, hl with | [_], _ => rfl), ok_whole Fis_whole_table M Dleads_to_all⟩
  let Dis_walk : Df P w K mg base 6 "is_walk" ["value"] _ := ⟨fis_walk, fdis_walk, gis_walk, Fis_walk.kp, (Fis_walk.binds (ps := ["value"]) fun _ _ _ _ _ _ us hl => match us, hl with | [_], _ => rfl), ok_is_walk (n := 800) (by decide) Fis_walk M Z Dis_table Dis_whole_table Dtotal⟩
  let Dcheck_walk : Df P w K mg base 7 "check_walk" ["walk"] _ := ⟨fcheck_walk, fdcheck_walk, gcheck_walk, Fcheck_walk.kp, (Fcheck_walk.binds (ps := ["walk"]) fun _ _ _ _ _ _ us hl => match us, hl with | [_], _ => rfl), ok_check (n := 800) Fcheck_walk M Dis_walk⟩
  let Dis_way : Df P w K mg base 3 "is_way" ["value", "many"] _ := ⟨fis_way, fdis_way, gis_way, Fis_way.kp, (Fis_way.binds (ps := ["value", "many"]) fun _ _ _ _ _ _ us hl => match us, hl with | [_, _], _ => rfl), ok_is_way Fis_way M Y Dis_place⟩
  let Dis_ring : Df P w K mg base 8 "is_ring" ["walk", "value"] _ := ⟨fis_ring, fdis_ring, gis_ring, Fis_ring.kp, (Fis_ring.binds (ps := ["walk", "value"]) fun _ _ _ _ _ _ us hl => match us, hl with | [_, _], _ => rfl), ok_is_ring (n := 800) Fis_ring M Dcheck_walk Dis_way⟩
  have Nis_ring := kwn2_of (x1 := "walk") (x2 := "value") Fis_ring fun _ _ _ _ _ _ _ _ => rfl
  let Dring_products : Df P w K mg base 3 "ring_products" ["walk", "ring"] _ := ⟨fring_products, fdring_products, gring_products, Fring_products.kp, (Fring_products.binds (ps := ["walk", "ring"]) fun _ _ _ _ _ _ us hl => match us, hl with | [_, _], _ => rfl), ok_ringp Fring_products M Dproduct_of⟩
  let Dproducts : Df P w K mg base 9 "products" ["walk", "ring"] _ := ⟨fproducts, fdproducts, gproducts, Fproducts.kp, (Fproducts.binds (ps := ["walk", "ring"]) fun _ _ _ _ _ _ us hl => match us, hl with | [_, _], _ => rfl), ok_products (nb := 800) Fproducts M Dis_ring Dring_products⟩
  have Nproducts := kwn2_of (x1 := "walk") (x2 := "ring") Fproducts fun _ _ _ _ _ _ _ _ => rfl
  let Dlaw_well : Df P w K mg base 1 "_law_well" ["script", "salt"] _ := ⟨f_law_well, fd_law_well, g_law_well, F_law_well.kp, (F_law_well.binds (ps := ["script", "salt"]) fun _ _ _ _ _ _ us hl => match us, hl with | [_, _], _ => rfl), ok_well F_law_well M⟩
  let Dlaw_pick : Df P w K mg base 1 "_law_pick" ["well", "limit"] _ := ⟨f_law_pick, fd_law_pick, g_law_pick, F_law_pick.kp, (F_law_pick.binds (ps := ["well", "limit"]) fun _ _ _ _ _ _ us hl => match us, hl with | [_, _], _ => rfl), ok_pickL F_law_pick M⟩
  let Dlaw_of : Df P w K mg base 2 "_law_of" ["well", "some"] _ := ⟨f_law_of, fd_law_of, g_law_of, F_law_of.kp, (F_law_of.binds (ps := ["well", "some"]) fun _ _ _ _ _ _ us hl => match us, hl with | [_, _], _ => rfl), ok_ofL F_law_of M Dlaw_pick⟩
  let Dlaw_frac : Df P w K mg base 1 "_law_frac" ["up", "down"] _ := ⟨f_law_frac, fd_law_frac, g_law_frac, F_law_frac.kp, (F_law_frac.binds (ps := ["up", "down"]) fun _ _ _ _ _ _ us hl => match us, hl with | [_, _], _ => rfl), ok_lfrac F_law_frac M⟩
  let Dlaw_plus : Df P w K mg base 2 "_law_plus" ["here", "there"] _ := ⟨f_law_plus, fd_law_plus, g_law_plus, F_law_plus.kp, (F_law_plus.binds (ps := ["here", "there"]) fun _ _ _ _ _ _ us hl => match us, hl with | [_, _], _ => rfl), ok_lplus F_law_plus M Dlaw_frac⟩
  let Dlaw_times : Df P w K mg base 2 "_law_times" ["here", "there"] _ := ⟨f_law_times, fd_law_times, g_law_times, F_law_times.kp, (F_law_times.binds (ps := ["here", "there"]) fun _ _ _ _ _ _ us hl => match us, hl with | [_, _], _ => rfl), ok_ltimes F_law_times M Dlaw_frac⟩
  let Dlaw_over : Df P w K mg base 2 "_law_over" ["here", "there"] _ := ⟨f_law_over, fd_law_over, g_law_over, F_law_over.kp, (F_law_over.binds (ps := ["here", "there"]) fun _ _ _ _ _ _ us hl => match us, hl with | [_, _], _ => rfl), ok_lover F_law_over M Dlaw_frac⟩
  let Dlaw_total : Df P w K mg base 3 "_law_total" ["parts"] _ := ⟨f_law_total, fd_law_total, g_law_total, F_law_total.kp, (F_law_total.binds (ps := ["parts"]) fun _ _ _ _ _ _ us hl => match us, hl with | [_], _ => rfl), ok_ltotalL F_law_total M Dlaw_plus⟩
  let Dlaw_over_sum : Df P w K mg base 4 "_law_over_sum" ["row"] _ := ⟨f_law_over_sum, fd_law_over_sum, g_law_over_sum, F_law_over_sum.kp, (F_law_over_sum.binds (ps := ["row"]) fun _ _ _ _ _ _ us hl => match us, hl with | [_], _ => rfl), ok_loversum F_law_over_sum M Dlaw_over Dlaw_total⟩
  let Dlaw_ears : Df P w K mg base 3 "_law_ears" ["well", "many"] _ := ⟨f_law_ears, fd_law_ears, g_law_ears, F_law_ears.kp, (F_law_ears.binds (ps := ["well", "many"]) fun _ _ _ _ _ _ us hl => match us, hl with | [_, _], _ => rfl), ok_ears F_law_ears M Dlaw_pick Dlaw_of⟩
  let Dlaw_part : Df P w K mg base 2 "_law_part" ["well"] _ := ⟨f_law_part, fd_law_part, g_law_part, F_law_part.kp, (F_law_part.binds (ps := ["well"]) fun _ _ _ _ _ _ us hl => match us, hl with | [_], _ => rfl), ok_part F_law_part M Dlaw_pick⟩
  let Dlaw_walk : Df P w K mg base 5 "_law_walk" ["well", "many"] _ := ⟨f_law_walk, fd_law_walk, g_law_walk, F_law_walk.kp, (F_law_walk.binds (ps := ["well", "many"]) fun _ _ _ _ _ _ us hl => match us, hl with | [_, _], _ => rfl), ok_ldraw F_law_walk M Dlaw_pick Dlaw_ears Dlaw_part Dlaw_over_sum⟩
  let Dlaw_shares : Df P w K mg base 5 "_law_shares" ["going"] _ := ⟨f_law_shares, fd_law_shares, g_law_shares, F_law_shares.kp, (F_law_shares.binds (ps := ["going"]) fun _ _ _ _ _ _ us hl => match us, hl with | [_], _ => rfl), ok_lshares F_law_shares M Dlaw_total Dlaw_over Dlaw_times Dlaw_plus Dlaw_over_sum⟩
  let Dlaw_flows : Df P w K mg base 6 "_law_flows" ["going"] _ := ⟨f_law_flows, fd_law_flows, g_law_flows, F_law_flows.kp, (F_law_flows.binds (ps := ["going"]) fun _ _ _ _ _ _ us hl => match us, hl with | [_], _ => rfl), ok_lflows F_law_flows M Dlaw_shares Dlaw_times⟩
  let Dlaw_backward : Df P w K mg base 7 "_law_backward" ["going"] _ := ⟨f_law_backward, fd_law_backward, g_law_backward, F_law_backward.kp, (F_law_backward.binds (ps := ["going"]) fun _ _ _ _ _ _ us hl => match us, hl with | [_], _ => rfl), ok_lback F_law_backward M Dlaw_flows Dlaw_over_sum⟩
  let Dlaw_rings : Df P w K mg base 1 "_law_rings" ["many"] _ := ⟨f_law_rings, fd_law_rings, g_law_rings, F_law_rings.kp, (F_law_rings.binds (ps := ["many"]) fun _ _ _ _ _ _ us hl => match us, hl with | [_], _ => rfl), ok_lrings F_law_rings M⟩
  let Dlaw_around : Df P w K mg base 3 "_law_around" ["going", "loop"] _ := ⟨f_law_around, fd_law_around, g_law_around, F_law_around.kp, (F_law_around.binds (ps := ["going", "loop"]) fun _ _ _ _ _ _ us hl => match us, hl with | [_, _], _ => rfl), ok_laround F_law_around M Dlaw_times⟩
  let Dlaw_is_number : Df P w K mg base 1 "_law_is_number" ["thing"] _ := ⟨f_law_is_number, fd_law_is_number, g_law_is_number, F_law_is_number.kp, (F_law_is_number.binds (ps := ["thing"]) fun _ _ _ _ _ _ us hl => match us, hl with | [_], _ => rfl), ok_lnum F_law_is_number M⟩
  let Dlaw_is_frac : Df P w K mg base 2 "_law_is_frac" ["thing"] _ := ⟨f_law_is_frac, fd_law_is_frac, g_law_is_frac, F_law_is_frac.kp, (F_law_is_frac.binds (ps := ["thing"]) fun _ _ _ _ _ _ us hl => match us, hl with | [_], _ => rfl), ok_lisfrac (n := 300) (by decide) F_law_is_frac M Dlaw_is_number Dlaw_frac⟩
  let Dlaw_odd : Df P w K mg base 3 "_law_odd" ["well"] _ := ⟨f_law_odd, fd_law_odd, g_law_odd, F_law_odd.kp, (F_law_odd.binds (ps := ["well"]) fun _ _ _ _ _ _ us hl => match us, hl with | [_], _ => rfl), ok_odd F_law_odd M Dlaw_of⟩
  let Dlaw_bent : Df P w K mg base 7 "_law_bent" ["well", "thing"] _ := ⟨f_law_bent, fd_law_bent, g_law_bent, F_law_bent.kp, (F_law_bent.binds (ps := ["well", "thing"]) fun _ _ _ _ _ _ us hl => match us, hl with | [_, _], _ => rfl), ok_bent F_law_bent M g_law_bent F_law_bent.kp (F_law_bent.binds (ps := ["well", "thing"]) fun _ _ _ _ _ _ us hl => match us, hl with | [_, _], _ => rfl) Dlaw_pick Dlaw_of Dlaw_odd Dlaw_is_number Dlaw_is_frac Dlaw_plus 2⟩
  let Dlaw_is_ring : Df P w K mg base 2 "_law_is_ring" ["many", "thing"] _ := ⟨f_law_is_ring, fd_law_is_ring, g_law_is_ring, F_law_is_ring.kp, (F_law_is_ring.binds (ps := ["many", "thing"]) fun _ _ _ _ _ _ us hl => match us, hl with | [_, _], _ => rfl), ok_lring F_law_is_ring M Dlaw_is_number⟩
  let Dlaw_loop : Df P w K mg base 3 "_law_loop" ["well", "many"] _ := ⟨f_law_loop, fd_law_loop, g_law_loop, F_law_loop.kp, (F_law_loop.binds (ps := ["well", "many"]) fun _ _ _ _ _ _ us hl => match us, hl with | [_, _], _ => rfl), ok_lloop F_law_loop M Dlaw_pick Dlaw_of⟩
  let Dlaw_right : Dg P w K mg base 10 "_law_right" ["well"] _ := ⟨f_law_right, fd_law_right, g_law_right, F_law_right.kp, (F_law_right.binds (ps := ["well"]) fun _ _ _ _ _ _ us hl => match us, hl with | [_], _ => rfl), ok_right F_law_right M Dlaw_of Dlaw_walk Dlaw_loop Dlaw_bent Dlaw_odd Dis_ring Dlaw_is_ring Dlaw_rings Dlaw_backward Dlaw_around Dproducts Nis_ring Nproducts⟩
  exact ok_law Flaw M Dlaw_well Dlaw_right
end
end Kx
open PySem PySem.W PyProof.Rows
set_option maxRecDepth 100000 in
set_option maxHeartbeats 0 in
theorem PySem.Challenge.cw_backwalks_k07_rings_of_anything_and_prod_holds : PySem.Challenge.rw_backwalks_k07_rings_of_anything_and_prod.Holds := by
  w_on; o_law; k_head; (case hw => w_witness2)
  k_fill
  refine Bw.walk_G (l := PySem.Challenge.rw_backwalks_k07_rings_of_anything_and_prod) (n := 63) (k := 11) (x := "script") (sp := Kx.spLaw) rfl (by decide) rfl ⟨rfl, by decide, by decide⟩ (fun w h Y => PySem.W.kIn_of Y) ?F (fun K H a ns hl _ hS => ⟨a, ns, rfl, hS, hl, fun _ => rfl⟩)
  case F =>
    intro w mg fa h KX G hmg
    refine' Kx.all_mk KX G hmg ?dis_whole ?dis_place ?dis_fraction ?dis_from_nil ?dlowest ?dplus ?dtotal ?dproduct_of ?dis_table_row ?dis_table ?dleads_to_all ?dis_whole_table ?dis_walk ?dcheck_walk ?dis_way ?dis_ring ?dring_products ?dproducts ?d_law_well ?d_law_pick ?d_law_of ?d_law_frac ?d_law_plus ?d_law_times ?d_law_over ?d_law_total ?d_law_over_sum ?d_law_ears ?d_law_part ?d_law_walk ?d_law_shares ?d_law_flows ?d_law_backward ?d_law_rings ?d_law_around ?d_law_is_number ?d_law_is_frac ?d_law_odd ?d_law_bent ?d_law_is_ring ?d_law_loop ?d_law_right ?dlaw ?zint ?zlen ?zabs ?zdivmod ?zrange ?zenumerate ?zisinstance ?zrepr ?ztuple ?zlist ?zall ?zzip ?zstr ?zbool ?zset ?zmin ?zmax ?zsorted ?pn ?po ?pg ?pm ?ps
    (case dis_whole => exact ⟨_, _, _, _, _, _, _, _, _, _, by k_is, by k_is, by k_is, by k_is⟩)
    (case dis_place => exact ⟨_, _, _, _, _, _, _, _, _, _, by k_is, by k_is, by k_is, by k_is⟩)
    (case dis_fraction => exact ⟨_, _, _, _, _, _, _, _, _, _, by k_is, by k_is, by k_is, by k_is⟩)
    (case dis_from_nil => exact ⟨_, _, _, _, _, _, _, _, _, _, by k_is, by k_is, by k_is, by k_is⟩)
    (case dlowest => exact ⟨_, _, _, _, _, _, _, _, _, _, by k_is, by k_is, by k_is, by k_is⟩)
    (case dplus => exact ⟨_, _, _, _, _, _, _, _, _, _, by k_is, by k_is, by k_is, by k_is⟩)
    (case dtotal => exact ⟨_, _, _, _, _, _, _, _, _, _, by k_is, by k_is, by k_is, by k_is⟩)
    (case dproduct_of => exact ⟨_, _, _, _, _, _, _, _, _, _, by k_is, by k_is, by k_is, by k_is⟩)
    (case dis_table_row => exact ⟨_, _, _, _, _, _, _, _, _, _, by k_is, by k_is, by k_is, by k_is⟩)
    (case dis_table => exact ⟨_, _, _, _, _, _, _, _, _, _, by k_is, by k_is, by k_is, by k_is⟩)
    (case dleads_to_all => exact ⟨_, _, _, _, _, _, _, _, _, _, by k_is, by k_is, by k_is, by k_is⟩)
    (case dis_whole_table => exact ⟨_, _, _, _, _, _, _, _, _, _, by k_is, by k_is, by k_is, by k_is⟩)
    (case dis_walk => exact ⟨_, _, _, _, _, _, _, _, _, _, by k_is, by k_is, by k_is, by k_is⟩)
    (case dcheck_walk => exact ⟨_, _, _, _, _, _, _, _, _, _, by k_is, by k_is, by k_is, by k_is⟩)
    (case dis_way => exact ⟨_, _, _, _, _, _, _, _, _, _, by k_is, by k_is, by k_is, by k_is⟩)
    (case dis_ring => exact ⟨_, _, _, _, _, _, _, _, _, _, by k_is, by k_is, by k_is, by k_is⟩)
    (case dring_products => exact ⟨_, _, _, _, _, _, _, _, _, _, by k_is, by k_is, by k_is, by k_is⟩)
    (case dproducts => exact ⟨_, _, _, _, _, _, _, _, _, _, by k_is, by k_is, by k_is, by k_is⟩)
    (case d_law_well => exact ⟨_, _, _, _, _, _, _, _, _, _, by k_is, by k_is, by k_is, by k_is⟩)
    (case d_law_pick => exact ⟨_, _, _, _, _, _, _, _, _, _, by k_is, by k_is, by k_is, by k_is⟩)
    (case d_law_of => exact ⟨_, _, _, _, _, _, _, _, _, _, by k_is, by k_is, by k_is, by k_is⟩)
    (case d_law_frac => exact ⟨_, _, _, _, _, _, _, _, _, _, by k_is, by k_is, by k_is, by k_is⟩)
    (case d_law_plus => exact ⟨_, _, _, _, _, _, _, _, _, _, by k_is, by k_is, by k_is, by k_is⟩)
    (case d_law_times => exact ⟨_, _, _, _, _, _, _, _, _, _, by k_is, by k_is, by k_is, by k_is⟩)
    (case d_law_over => exact ⟨_, _, _, _, _, _, _, _, _, _, by k_is, by k_is, by k_is, by k_is⟩)
    (case d_law_total => exact ⟨_, _, _, _, _, _, _, _, _, _, by k_is, by k_is, by k_is, by k_is⟩)
    (case d_law_over_sum => exact ⟨_, _, _, _, _, _, _, _, _, _, by k_is, by k_is, by k_is, by k_is⟩)
    (case d_law_ears => exact ⟨_, _, _, _, _, _, _, _, _, _, by k_is, by k_is, by k_is, by k_is⟩)
    (case d_law_part => exact ⟨_, _, _, _, _, _, _, _, _, _, by k_is, by k_is, by k_is, by k_is⟩)
    (case d_law_walk => exact ⟨_, _, _, _, _, _, _, _, _, _, by k_is, by k_is, by k_is, by k_is⟩)
    (case d_law_shares => exact ⟨_, _, _, _, _, _, _, _, _, _, by k_is, by k_is, by k_is, by k_is⟩)
    (case d_law_flows => exact ⟨_, _, _, _, _, _, _, _, _, _, by k_is, by k_is, by k_is, by k_is⟩)
    (case d_law_backward => exact ⟨_, _, _, _, _, _, _, _, _, _, by k_is, by k_is, by k_is, by k_is⟩)
    (case d_law_rings => exact ⟨_, _, _, _, _, _, _, _, _, _, by k_is, by k_is, by k_is, by k_is⟩)
    (case d_law_around => exact ⟨_, _, _, _, _, _, _, _, _, _, by k_is, by k_is, by k_is, by k_is⟩)
    (case d_law_is_number => exact ⟨_, _, _, _, _, _, _, _, _, _, by k_is, by k_is, by k_is, by k_is⟩)
    (case d_law_is_frac => exact ⟨_, _, _, _, _, _, _, _, _, _, by k_is, by k_is, by k_is, by k_is⟩)
    (case d_law_odd => exact ⟨_, _, _, _, _, _, _, _, _, _, by k_is, by k_is, by k_is, by k_is⟩)
    (case d_law_bent => exact ⟨_, _, _, _, _, _, _, _, _, _, by k_is, by k_is, by k_is, by k_is⟩)
    (case d_law_is_ring => exact ⟨_, _, _, _, _, _, _, _, _, _, by k_is, by k_is, by k_is, by k_is⟩)
    (case d_law_loop => exact ⟨_, _, _, _, _, _, _, _, _, _, by k_is, by k_is, by k_is, by k_is⟩)
    (case d_law_right => exact ⟨_, _, _, _, _, _, _, _, _, _, by k_is, by k_is, by k_is, by k_is⟩)
    (case dlaw => exact ⟨_, _, _, _, _, _, _, _, _, _, by k_is, by k_is, by k_is, by k_is⟩)
    (case zint => k_is)
    (case zlen => k_is)
    (case zabs => k_is)
    (case zdivmod => k_is)
    (case zrange => k_is)
    (case zenumerate => k_is)
    (case zisinstance => k_is)
    (case zrepr => k_is)
    (case ztuple => k_is)
    (case zlist => k_is)
    (case zall => k_is)
    (case zzip => k_is)
    (case zstr => k_is)
    (case zbool => k_is)
    (case zset => k_is)
    (case zmin => k_is)
    (case zmax => k_is)
    (case zsorted => k_is)
    (case pn => exact ⟨_, _, _, _, _, _, by k_is, by k_is⟩)
    (case po => exact ⟨_, _, _, _, _, _, by k_is, by k_is⟩)
    (case pg => k_is)
    (case pm => exact ⟨_, by k_is⟩)
    (case ps => exact ⟨_, by k_is⟩)
