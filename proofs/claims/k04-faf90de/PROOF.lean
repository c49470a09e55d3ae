import PyProof.Rows.All
import Wide.All
import OpenK.AllK
import Wide.FinOn
import HandS.ForMost
import HandS.Wide
import HandS.IsInst
import HandS.TupAny
import HandS.EndBits
import HandS.Style
import PyProof.StrLawsRepr
import PySem.Challenge.RW_fullrooms_k04_deeds_or_not
set_option Elab.async false
set_option linter.all false
set_option maxRecDepth 100000
namespace Fr
open PySem PySem.Spec PyProof.Rows L2

/-! a def's promise while nothing is being shown further out -/
structure FnG (P : Program) (w : World) (K : PySem.W.Frag) (mg : Str → Option Value)
    (base : Heap) (k : Nat) (f : Addr) (fd : FuncData) (ps : List Str) (sp : Sp) : Prop where
  len : ∀ vs H Q E, sp vs H Q E → vs.length = ps.length
  run : ∀ (B : Around) (fs : List Env) (st : Shared) (H : Hp) (ar : Args) (us : List Value)
    (vs : List V) (Q : VK) (E : XK), B.guards = some [] → Room k B →
    Env0 P w K mg base B fs st H → BindsTo st fd ar (ps.zip us) → Vals vs us → sp vs H Q E →
    codeAny (model P w) B (.call (.ref f) ar) (CR CX0 fs P w H st Q E) st

section
variable {P : Program} {w : World} {K : PySem.W.Frag} {mg : Str → Option Value} {base : Heap}
theorem okG {x qual : Str} {st : Stmt} {f : Addr} {fd : FuncData} {N ps : List Str} {k : Nat} {sp : Sp}
    (F : Fun K x qual st f fd) (S : FnScope N ps (defScope st))
    (ln : ∀ vs H Q E, sp vs H Q E → vs.length = ps.length)
    (bd : ∀ (cdv : Value) (B : Around) (fs : List Env) (s0 : Shared) (H : Hp) (vs : List V) (Q : VK) (E : XK),
      B.guards = some [] → Room k (B.deeper (envOfC qual (defScope st) s0.heap.objs.size f cdv)) → sp vs H Q E →
      ∃ t, PSs (cxOf CX0 P w K mg base N qual (defScope st) f cdv B fs s0 H E).nox (defBody st) t ∧
        t { nx := fun _ H' => Q .non H', rt := Q } (start N vs) H) : FnG P w K mg base (k + 1) f fd ps sp := by
  obtain ⟨oc, od, kV, doc, pm, an, cdv, ct, osl, rfl, lk, hcd⟩ := F.ex
  refine ⟨ln, fun B fs s0 H ar us vs Q E gd hr e0 hb r hsp => ?_⟩
  have inh : K.In s0.heap := e0.mod.kin.keeps fun b o e => (e0.bs b o e).1
  have kinds : ∀ y ∈ ps.zip us, (defScope st).names.lookup y.1 = some .local ∨
      ((defScope st).names.lookup y.1 = some .cell ∧
        ((cellsFrom (s0.heap.objs.size + 1) (defScope st).names []).lookup y.1).isSome = true) := by
    rintro ⟨n, v⟩ hy
    exact (S.par n (List.of_mem_zip hy).1).imp id fun q => ⟨q, PySem.W.cellsFrom_some _ _ _ (.inl q)⟩
  refine codeAny_call_function hr.depth (inh _ _ lk) rfl S.co S.gen rfl
    (PySem.W.codeRec_of inh hcd) (hb _ _ _ _ ?_)
  refine wpAny_newFunctionEnv_cells S.kind kinds fun env he s1 xx => ?_
  subst he
  refine ⟨(e0.mod.nolimit.keeps fun b o e => (e0.bs b o e).1).keeps xx.toInCall.keep, codeAny_func ?_⟩
  obtain ⟨t, ht, tq⟩ := bd cdv B fs s0 H vs Q E gd (hr.deeper _) hsp
  have II := inv_start (CX := CX0) (E := E) (qual := qual) (f := f) (cd := cdv) S hr.hd e0 (ln _ _ _ _ hsp) r xx
  refine wpAny_mono ((PSs.nox ht).run [] s1 (start N vs) H _ II tq) (fun fl s2 hs => ?_) fun e s2 hs => hs
  match fl, hs with
  | .ret u, ⟨v, _, H', J, rv, q⟩ => exact ⟨v, H', J.os, J.bare, J.base, J.hok, rv, q⟩
  | .next, ⟨_, H', J, q⟩ => exact ⟨V.non, H', J.os, J.bare, J.base, J.hok, rfl, q⟩
  | .brk, ⟨_, _, _, q⟩ => exact q.elim
  | .cont, ⟨_, _, _, q⟩ => exact q.elim
end

section
variable {X : Cx} {k : Nat} {f : Addr} {fd : FuncData} {ps : List Str} {sp : Sp} {E : XK}
  {x : Str} {p pos : Pos} {e : Expr} {es : List Expr} {t : TA}
theorem pe_callG (F : FnG X.prog X.w X.K X.mg X.base k f fd ps sp) (gd : X.A.guards = some [])
    (hr : Room k X.A) (hg : Gl X x) (hm : X.mg x = some (.ref f)) (hk : PySem.W.keepIn X.K (.ref f) = true)
    (hb : Binds X.K fd ps []) (ha : PA X (e :: es) t) (hdb : (x == ("__debug__" : Str)) = false := by decide)
    (he : starEach (e :: es) X.env = (false, eval e X.env) :: starEach es X.env := by rfl)
    (hpl : (backTo pos (starEach es X.env)).any (·.1) = false := by rfl) :
    PE X (.Call (.Name x p) (e :: es) [] pos) (tCall sp [] E0 t) := by
  refine ⟨fun pins s σ H Q I h => wpAny_Call_Name_kw (ld_glob I hg hm ?_ hdb)⟩
  refine PySem.W.callWith_K (h₀ := X.base) I.ok.mod.kin hk
    (thn (ha.run pos pins s σ H _ I h) fun us s1 ⟨vs, H1, I1, r, q⟩ => ⟨I1.kIn, ?_⟩) he hpl
  have q2 : sp vs H1 Q E0 := by
    have q1 : sp (vs ++ []) H1 Q E0 := q
    rwa [List.append_nil] at q1
  have hl : us.length = ps.length := by rw [← r.length]; exact F.len _ _ _ _ q2
  have hb1 := hb s1 us I1.kIn (by rw [List.append_nil]; exact hl)
  rw [List.append_nil] at hb1
  refine wpAny_call (codeAny_mono (F.run X.A X.stack s1 H1 ⟨us, []⟩ us vs Q E0 gd hr I1.env0 hb1 r q2) fun rr s2 hq => ?_)
  match rr, hq with
  | .error _, hq => exact (show False from hq).elim
  | .ok (.ret u), hq => exact I1.after hq
end

/-! the end of a law, at the caller's own place -/
theorem law_callG {P : Program} {w : World} {K : PySem.W.Frag} {mg mb : Str → Option Value} {k : Nat} {fa a : Addr}
    {fd : FuncData} {x : Str} {sp : Sp} {s1 : Shared} {vs : List Value} {ns : List Int}
    (KX : K.In s1.heap) (hns : s1.heap.Ns mainGlobals mg) (hb : s1.heap.Ns builtinsNs mb)
    (hbb : ∀ x : Str, x ≠ "__name__" → mb x = bootBuiltins x) (hlim : s1.heap.NoLimit) (hg : s1.gens = #[])
    (ha : s1.heap.get? a = some { cls := .type "list", data := .seq vs.toArray }) (hi : IntsAre vs ns)
    (hl : ns.length ≤ sizeLine) (hr : Room k callerA)
    (F : ∀ base : Heap, K.In base → base.Ns mainGlobals mg → FnG P w K mg base k fa fd [x] sp)
    (hbind : ∀ (s : Shared) (u : Value), BindsTo s fd ⟨[u], []⟩ [(x, u)])
    (hsp : ∀ H : Hp, Only H → SqL K H a (ns.map V.int) → sp [.ref a] H (fun v _ => v = .bl true) E0) :
    codeAny (model P w) callerA (.call (.ref fa) ⟨[.ref a], []⟩)
      (fun r s' => r = .ok (.ret (.bool true)) ∧ OldK s1.heap s'.heap ∧ s'.os = s1.os ∧ AllBare s'.gens) s1 := by
  have main : ∀ H : Hp, Only H → SqL K H a (ns.map V.int) → HOk P w H s1.heap → (∀ b, H b ≠ none → b = a) →
      (∀ b o, K.lookup b = some o → H b = none) → codeAny (model P w) callerA (.call (.ref fa) ⟨[.ref a], []⟩)
      (fun r s' => r = .ok (.ret (.bool true)) ∧ OldK s1.heap s'.heap ∧ s'.os = s1.os ∧ AllBare s'.gens) s1 := by
    intro H only sq hok at_a offK
    have dic : ∀ {b : Addr} {m : Str → Option Value}, s1.heap.Ns b m → (hidT s1.heap H).Ns b m := by
      rintro b m ⟨o, es, ep, e, dd, r⟩
      refine ⟨o, es, ep, hidT_get e ?_, dd, r⟩
      cases q : H b with
      | none => rfl
      | some u =>
        exfalso
        have z := at_a b (by rw [q]; exact Option.some_ne_none _)
        rw [z, ha] at e
        injection e with e
        rw [← e] at dd
        exact nomatch dd
    have kin : K.In (hidT s1.heap H) := fun b o e => hidT_get (KX b o e) (offK b o e)
    obtain ⟨mc, c1, c2⟩ := hlim
    have md : Mod K mg (hidT s1.heap H) := ⟨kin, dic hns, ⟨mb, dic hb, hbb⟩, ⟨mc, dic c1, c2⟩⟩
    have ev : Env0 P w K mg (hidT s1.heap H) callerA [] s1 H :=
      ⟨rfl, md, fun b o e => of_hidT e, Nat.le_of_eq (hidT_size _ _), trivial,
        (fun b q => (List.not_mem_nil (show b ∈ ([] : List Addr) from q)).elim), hok, AllBare.of_eq hg⟩
    have done := (F _ kin (dic hns)).run callerA [] s1 H ⟨[.ref a], []⟩ [.ref a] [.ref a] _ _ rfl hr ev
      (hbind s1 (.ref a)) (.cons rfl .nil) (hsp H only sq)
    refine codeAny_mono done fun r s2 h => ?_
    match r, h with
    | .error _, h => exact (show False from h).elim
    | .ok (.ret u), ⟨v, H', os, bare, un, hok', rv, q⟩ =>
      have q' : v = .bl true := q
      subst q'
      have hu : u = Value.bool true := rv
      subst hu
      refine ⟨rfl, OldK.of_keep fun b o e => ?_, os, bare⟩
      rcases only b with z | ⟨ob, xs, z⟩
      · exact un.keep b o e z (fun z => (List.not_mem_nil (show b ∈ ([] : List Addr) from z)).elim) (List.not_mem_nil)
      · have e1 := (hok b _ z).1
        have e2 := (hok' b _ (un.frzs b ob _ z)).1
        rw [e] at e1
        injection e1 with e1
        rw [e1]
        exact e2
  have rv := vals_ints hi
  have lenV := hi.length
  by_cases hk : ∃ o, K.lookup a = some o
  · obtain ⟨o, hk⟩ := hk
    have e := KX a o hk
    rw [ha] at e
    injection e with e
    subst e
    refine main (fun _ => none) (fun _ => .inl rfl) (.inr ⟨_, vs.toArray, _, hk, rfl, rfl, rfl, ?_, ?_⟩) (fun b u z => nomatch z)
      (fun b z => absurd rfl z) fun b o _ => rfl
    · rw [List.size_toArray, lenV]
      exact hl
    · simpa using rv
  · have em : (upd (fun _ => none) a (.frz { cls := .type "list", data := .seq vs.toArray } (.lst (ns.map V.int)))) a = _ := upd_same
    refine main (upd (fun _ => none) a (.frz { cls := .type "list", data := .seq vs.toArray } (.lst (ns.map V.int)))) (fun b => ?_)
      (.inl (.inr ⟨_, em⟩)) (fun b u z => ?_) (fun b z => ?_) fun b o z => ?_
    · by_cases q : b = a
      · exact .inr ⟨_, _, by rw [q]; exact em⟩
      · exact .inl (by rw [upd_ne q])
    · by_cases q : b = a
      · subst q
        rw [em] at z
        injection z with z
        subst z
        exact ⟨ha, by rw [List.length_map]; exact hl, vs, _, rv, ha⟩
      · rw [upd_ne q] at z
        cases z
    · by_cases q : b = a
      · exact q
      · rw [upd_ne q] at z
        exact absurd rfl z
    · by_cases q : b = a
      · exact absurd ⟨o, q ▸ z⟩ hk
      · rw [upd_ne q]

theorem walkG {l : PySem.W.OpenLaw} {n k : Nat} {q : Program} {loose : List Str}
    {XP : (Str → Option Value) → Heap → Prop} {YP : World → Heap → Prop} {d : DefRec} {K : Params → PySem.W.Frag}
    {sp : World → Sp} {x : Str} (hn : l.most = some n) (hn2 : n ≤ sizeLine) (hdf : d.params.defaults = [])
    (hr : Room k callerA) (hY : ∀ (w : World) (h : Heap), YP w h → (K w.params).In h)
    (F : ∀ (w : World) (mg : Str → Option Value) (fa : Addr) (h : Heap), (K w.params).In h → h.Ns mainGlobals mg →
      mg d.name = some (.ref fa) → ∃ fd : FuncData, (∀ (s : Shared) (u : Value), BindsTo s fd ⟨[u], []⟩ [(x, u)]) ∧
        ∀ base : Heap, (K w.params).In base → base.Ns mainGlobals mg → FnG l.prog w (K w.params) mg base k fa fd [x] (sp w))
    (hsp : ∀ (w : World) (H : Hp) (a : Addr) (ns : List Int), ns.length ≤ n → Only H →
      SqL (K w.params) H a (ns.map V.int) → sp w [.ref a] H (fun v _ => v = .bl true) E0) :
    PySem.W.WalkO q loose XP YP l.row.toRowW d [] (fun f vs => PySem.call f vs) := by
  refine Att.attach_call hn hdf fun w s0 s1 mg mb fa o pm cd doc a vs ns G Y ho hd hcd hmg hobj hints hlen hg => ?_
  obtain ⟨fd, hb, hF⟩ := F w mg fa _ (hY w _ Y) G.T.g hmg
  exact law_callG (hY w _ Y) G.T.g G.T.b G.T.builtins G.T.nolimit hg hobj hints (Nat.le_trans hlen hn2) hr hF hb
    fun H hO hS => hsp w H a ns hlen hO hS
end Fr

set_option Elab.async false
set_option linter.all false
set_option maxRecDepth 100000
namespace Fr
open PySem PySem.Spec PyProof.Rows L2

/-! the deck: a list at d of two lists (at a, at b.b) and a count; b.l: a list of the caller's own beside it, if any -/
structure Sd where
  b : Addr
  l : Option Addr
def Ow (d a : Addr) (b : Sd) (x : Addr) : Prop := x = d ∨ x = a ∨ x = b.b
def Own (d a : Addr) (b : Sd) (x : Addr) : Prop := Ow d a b x ∨ b.l = some x
theorem off {d a : Addr} {b : Sd} {x : Addr} (h : ¬ Own d a b x) : ¬ Ow d a b x := fun z => h (.inl z)
/-- all but the deck is as it was -/
structure Kp (d a : Addr) (b : Sd) (H H' : Hp) : Prop where
  run : ∀ x o, H x = some o → ¬ Ow d a b x → H' x = some o
instance {d a : Addr} {b : Sd} {H H' : Hp} : CoeFun (Kp d a b H H') (fun _ => ∀ x o, H x = some o → ¬ Own d a b x → H' x = some o) := ⟨fun k x o h n => k.run x o h (off n)⟩
theorem Kp.refl {d a : Addr} {b : Sd} {H : Hp} : Kp d a b H H := ⟨fun _ _ h _ => h⟩
theorem Kp.trans {d a : Addr} {b : Sd} {H H1 H2 : Hp} (p : Kp d a b H H1) (q : Kp d a b H1 H2) : Kp d a b H H2 :=
  ⟨fun x o h n => q.run x o (p.run x o h n) n⟩
theorem Kp.of {d a : Addr} {b : Sd} {H H1 : Hp} (p : Same H H1) : Kp d a b H H1 := ⟨fun x o h _ => p x o h⟩
theorem same_new {H : Hp} {p : Addr} {o : HO} (n : H p = none) : Same H (upd H p o) := fun b x e => by
  rw [upd_ne (ne_of_none e n)]
  exact e
theorem Kp.new {d a : Addr} {b : Sd} {p : Addr} {H : Hp} {o : HO} (n : H p = none) : Kp d a b H (upd H p o) := Kp.of (same_new n)

structure Deck (d a : Addr) (b : Sd) (H : Hp) (c : Nat) : Prop where
  ex : ∃ (big cells : List Int) (n : Int), H d = some (.lst [.ref a, .ref b.b, .int n]) ∧ H a = some (.lst (big.map V.int)) ∧
    H b.b = some (.lst (cells.map V.int)) ∧ big.length ≤ 63 ∧ (∀ z ∈ big, 0 ≤ z) ∧ 0 < cells.length ∧ cells.length ≤ 64 ∧
    (∀ z ∈ cells, 0 ≤ z) ∧ 0 ≤ n ∧ n ≤ (c : Int)
  ne : a ≠ b.b
  sd : ∀ y, b.l = some y → ∃ o, H y = some o
theorem map_no {l : List Int} {x y z : V} {p : Addr} (hx : x = .ref p) (h : l.map V.int = [x, y, z]) : False := by
  cases l with
  | nil => cases h
  | cons i r =>
    injection h with h1 h2
    rw [hx] at h1
    cases h1
section
variable {d a p : Addr} {b : Sd} {H H' : Hp} {c : Nat}
theorem Deck.da (D : Deck d a b H c) : d ≠ a := by
  obtain ⟨big, cells, n, h1, h2, h3, _⟩ := D.ex
  exact ne_of h1 h2 fun e => by
    injection e with e
    exact map_no rfl e.symm
theorem Deck.db (D : Deck d a b H c) : d ≠ b.b := by
  obtain ⟨big, cells, n, h1, h2, h3, _⟩ := D.ex
  exact ne_of h1 h3 fun e => by
    injection e with e
    exact map_no rfl e.symm
theorem Deck.fresh (D : Deck d a b H c) (h : H p = none) : ¬ Own d a b p := by
  obtain ⟨big, cells, n, h1, h2, h3, _⟩ := D.ex
  rintro ((z | z | z) | z)
  · rw [← z, h] at h1; cases h1
  · rw [← z, h] at h2; cases h2
  · rw [← z, h] at h3; cases h3
  · obtain ⟨o, e⟩ := D.sd p z
    rw [h] at e; cases e
theorem Deck.put (D : Deck d a b H c) (h : ¬ Ow d a b p) {o : HO} : Deck d a b (upd H p o) c := by
  obtain ⟨big, cells, n, h1, h2, h3, r⟩ := D.ex
  refine ⟨⟨big, cells, n, ?_, ?_, ?_, r⟩, D.ne, fun y hy => ?_⟩
  · rw [upd_ne fun e => h (.inl e.symm)]; exact h1
  · rw [upd_ne fun e => h (.inr (.inl e.symm))]; exact h2
  · rw [upd_ne fun e => h (.inr (.inr e.symm))]; exact h3
  · by_cases e : y = p
    · exact ⟨o, by rw [e]; exact upd_same⟩
    · rw [upd_ne e]; exact D.sd y hy
theorem Deck.new (D : Deck d a b H c) (h : H p = none) {o : HO} : Deck d a b (upd H p o) c := D.put (off (D.fresh h))
theorem Deck.same (D : Deck d a b H c) (h : Same H H') : Deck d a b H' c := by
  obtain ⟨big, cells, n, h1, h2, h3, r⟩ := D.ex
  exact ⟨⟨big, cells, n, h _ _ h1, h _ _ h2, h _ _ h3, r⟩, D.ne, fun y hy => let ⟨o, e⟩ := D.sd y hy; ⟨o, h _ _ e⟩⟩
theorem Deck.mono (D : Deck d a b H c) {c' : Nat} (h : c ≤ c') : Deck d a b H c' := by
  obtain ⟨big, cells, n, h1, h2, h3, q1, q2, q3, q4, q5, q6, q7⟩ := D.ex
  exact ⟨⟨big, cells, n, h1, h2, h3, q1, q2, q3, q4, q5, q6, by omega⟩, D.ne, D.sd⟩
/-- a list of one's own beside the deck -/
theorem Deck.side (D : Deck d a b H c) {o : HO} (h : H p = some o) : Deck d a ⟨b.b, some p⟩ H c :=
  ⟨D.ex, D.ne, fun y hy => ⟨o, by rw [← Option.some.inj hy]; exact h⟩⟩
theorem Deck.unside (D : Deck d a ⟨b.b, some p⟩ H c) (hb : b.l = none) : Deck d a b H c := ⟨D.ex, D.ne, fun y hy => by rw [hb] at hy; cases hy⟩
theorem Deck.bare (D : Deck d a b H c) : Deck d a ⟨b.b, none⟩ H c := ⟨D.ex, D.ne, fun y hy => nomatch hy⟩
end

theorem side_no {d a p y : Addr} {b : Sd} {H : Hp} {o : HO} (hy : H y = none) (h : H p = some o) (n : ¬ Own d a b p) : ¬ Own d a ⟨b.b, some y⟩ p := by
  rintro (z | z)
  · exact n (.inl z)
  · have e : y = p := Option.some.inj z
    rw [e, h] at hy
    cases hy
/-! things: data that stand apart from the deck -/
mutual
inductive Dt (d a : Addr) (b : Sd) (H : Hp) : V → PyData → Prop
  | non : Dt d a b H .non .none
  | bl (k : Bool) : Dt d a b H (.bl k) (.bool k)
  | int (i : Int) : Dt d a b H (.int i) (.int i)
  | str (x : Str) : Dt d a b H (.str x) (.str x)
  | lst {p : Addr} {xs : List V} {ds : List PyData} : H p = some (.lst xs) → ¬ Own d a b p → DtAll d a b H xs ds → Dt d a b H (.ref p) (.list ds)
  | tup {p : Addr} {xs : List V} {ds : List PyData} : H p = some (.tup xs) → ¬ Own d a b p → DtAll d a b H xs ds → Dt d a b H (.ref p) (.tuple ds)
  | dct {p : Addr} : H p = some (.dK []) → ¬ Own d a b p → Dt d a b H (.ref p) (.dict [])
inductive DtAll (d a : Addr) (b : Sd) (H : Hp) : List V → List PyData → Prop
  | nil : DtAll d a b H [] []
  | cons {v : V} {vs : List V} {x : PyData} {xs : List PyData} : Dt d a b H v x → DtAll d a b H vs xs → DtAll d a b H (v :: vs) (x :: xs)
end
section
variable {d a : Addr} {b : Sd} {H H' : Hp}
mutual
theorem Dt.keepO (k : ∀ x o, H x = some o → ¬ Own d a b x → H' x = some o) : ∀ (x : PyData) (v : V), Dt d a b H v x → Dt d a b H' v x
  | .none, _, .non => .non
  | .bool _, _, .bl _ => .bl _
  | .int _, _, .int _ => .int _
  | .str _, _, .str _ => .str _
  | .list _, _, .lst h n r => .lst (k _ _ h n) n (DtAll.keepO k _ _ r)
  | .tuple _, _, .tup h n r => .tup (k _ _ h n) n (DtAll.keepO k _ _ r)
  | .dict _, _, .dct h n => .dct (k _ _ h n) n
theorem DtAll.keepO (k : ∀ x o, H x = some o → ¬ Own d a b x → H' x = some o) : ∀ (xs : List PyData) (vs : List V), DtAll d a b H vs xs → DtAll d a b H' vs xs
  | [], _, .nil => .nil
  | _ :: _, _, .cons h r => .cons (Dt.keepO k _ _ h) (DtAll.keepO k _ _ r)
end
theorem Dt.keep (k : Kp d a b H H') (x : PyData) (v : V) (h : Dt d a b H v x) : Dt d a b H' v x := Dt.keepO (fun y o e n => k y o e n) x v h
theorem DtAll.keep (k : Kp d a b H H') (x : List PyData) (v : List V) (h : DtAll d a b H v x) : DtAll d a b H' v x := DtAll.keepO (fun y o e n => k y o e n) x v h
mutual
theorem Dt.side {y : Addr} (hb : b.l = none) (hy : H y = none) : ∀ (x : PyData) (v : V), Dt d a b H v x → Dt d a ⟨b.b, some y⟩ H v x
  | .none, _, .non => .non
  | .bool _, _, .bl _ => .bl _
  | .int _, _, .int _ => .int _
  | .str _, _, .str _ => .str _
  | .list _, _, .lst h n r => .lst h (side_no hy h n) (DtAll.side hb hy _ _ r)
  | .tuple _, _, .tup h n r => .tup h (side_no hy h n) (DtAll.side hb hy _ _ r)
  | .dict _, _, .dct h n => .dct h (side_no hy h n)
theorem DtAll.side {y : Addr} (hb : b.l = none) (hy : H y = none) : ∀ (xs : List PyData) (vs : List V), DtAll d a b H vs xs → DtAll d a ⟨b.b, some y⟩ H vs xs
  | [], _, .nil => .nil
  | _ :: _, _, .cons h r => .cons (Dt.side hb hy _ _ h) (DtAll.side hb hy _ _ r)
end
theorem DtAll.length : ∀ {vs : List V} {xs : List PyData}, DtAll d a b H vs xs → vs.length = xs.length
  | _, _, .nil => rfl
  | _, _, .cons _ r => by rw [List.length_cons, List.length_cons, DtAll.length r]
theorem DtAll.get : ∀ {vs : List V} {xs : List PyData} {i : Nat} {v : V}, DtAll d a b H vs xs → vs[i]? = some v → ∃ x, xs[i]? = some x ∧ Dt d a b H v x
  | _, _, _, _, .nil, e => by simp at e
  | _, _, 0, _, .cons h _, e => by
    simp at e
    subst e
    exact ⟨_, rfl, h⟩
  | _, _, i + 1, v, .cons _ r, e => by
    obtain ⟨x, h1, h2⟩ := DtAll.get (i := i) (v := v) r (by simpa using e)
    exact ⟨x, by simpa using h1, h2⟩
theorem DtAll.append : ∀ {vs ws : List V} {xs ys : List PyData}, DtAll d a b H vs xs → DtAll d a b H ws ys → DtAll d a b H (vs ++ ws) (xs ++ ys)
  | _, _, _, _, .nil, s => s
  | _, _, _, _, .cons h r, s => .cons h (DtAll.append r s)
theorem DtAll.ints : ∀ (l : List Int), DtAll d a b H (l.map V.int) (l.map PyData.int)
  | [] => .nil
  | _ :: l => .cons (.int _) (DtAll.ints l)
end

/-! a list stands somewhere within -/
mutual
def hasL : PyData → Bool
  | .list _ => true
  | .tuple xs => hasLAll xs
  | _ => false
def hasLAll : List PyData → Bool
  | [] => false
  | x :: xs => hasL x || hasLAll xs
end
section
variable {X : Cx} {pins : List (Addr × Obj)} {σ : L2.St} {H : Hp} {s : Shared} {d a : Addr} {b : Sd}
mutual
theorem Dt.reads (I : Inv X pins σ H s) :
    ∀ (x : PyData) (v : V) (u : Value), Dt d a b H v x → RelV v u → ∃ as, Reads s.heap u x as ∧ (hasL x = false → sysModules ∉ as)
  | .none, _, _, .non, r => by
    cases r
    exact ⟨_, Reads.none, fun _ => List.not_mem_nil⟩
  | .bool k, _, _, .bl _, r => by
    cases r
    exact ⟨_, Reads.bool k, fun _ => List.not_mem_nil⟩
  | .int i, _, _, .int _, r => by
    obtain ⟨t, rfl⟩ := r
    exact ⟨_, Reads.int i t, fun _ => List.not_mem_nil⟩
  | .str x, _, _, .str _, r => by
    obtain ⟨t, rfl⟩ := r
    exact ⟨_, Reads.str x t, fun _ => List.not_mem_nil⟩
  | .list ds, _, _, .lst h n q, r => by
    cases r
    obtain ⟨its, rv, ⟨o, m, ho, hc, _, hd⟩, _⟩ := I.list (SqL.of h)
    obtain ⟨as, hr, ha⟩ := Dt.readsAll I ds _ its q rv
    exact ⟨_, Reads.list ho hc hd hr, fun hl => by simp [hasL] at hl⟩
  | .tuple ds, _, _, .tup h n q, r => by
    cases r
    obtain ⟨its, rv, ⟨o, ho, hc, m, hd⟩, _⟩ := I.tuple (SqT.of h)
    obtain ⟨as, hr, ha⟩ := Dt.readsAll I ds _ its q rv
    exact ⟨_, Reads.tuple ho hc hd hr, fun hl => ha (by simpa [hasL] using hl)⟩
  | .dict _, _, _, .dct h n, r => by
    cases r
    obtain ⟨_, hp, vs, kv, o, es, ep, ho, hx, hd, _, hes, _⟩ := dk_of I.hok h
    cases kv
    have e0 : es.toList = [] := by
      generalize es.toList = l at hes
      cases hes
      rfl
    refine ⟨_, Reads.dict (kvs := []) ho hx.1 hd (by rw [e0]; exact ReadsAll.nil) (by rw [e0]; exact ReadsAll.nil), fun _ hm => ?_⟩
    rcases List.mem_cons.mp hm with z | z
    · rw [← z] at hp
      simp at hp
    · simp at z
theorem Dt.readsAll (I : Inv X pins σ H s) :
    ∀ (xs : List PyData) (vs : List V) (us : List Value), DtAll d a b H vs xs → Vals vs us → ∃ as, ReadsAll s.heap us xs as ∧ (hasLAll xs = false → sysModules ∉ as)
  | [], _, _, .nil, r => by
    cases r
    exact ⟨_, ReadsAll.nil, fun _ => List.not_mem_nil⟩
  | x :: xs, _, _, .cons h1 h2, .cons r1 r2 => by
    obtain ⟨as, q1, n1⟩ := Dt.reads I x _ _ h1 r1
    obtain ⟨bs, q2, n2⟩ := Dt.readsAll I xs _ _ h2 r2
    refine ⟨_, ReadsAll.cons q1 q2, fun hl hm => ?_⟩
    have hl2 : hasL x = false ∧ hasLAll xs = false := by simpa [hasLAll] using hl
    exact (List.mem_append.mp hm).elim (n1 hl2.1) (n2 hl2.2)
end
end
end Fr

set_option Elab.async false
set_option linter.all false
set_option maxRecDepth 100000
namespace Fr
open PySem PySem.Spec PyProof.Rows L2
/-! what is shown of a thing -/
def rShow : List V → Hp → VK → Prop := fun xs H Q => ∃ (d a : Addr) (b : Sd) (v : V) (x : PyData), xs = [v] ∧ Dt d a b H v x ∧
  x.showable = true ∧ (x.hasDict = true → hasL x = false) ∧ x.depth ≤ 30 ∧ x.shown.length ≤ sizeLine ∧ Q (.str x.shown) H
theorem call_show {X : Cx} (gd : X.A.guards = some []) (hu : X.A.units + 64 < cLine) : CallR X (.builtin "repr") rShow := by
  intro pins s σ H xs us Q I r h
  obtain ⟨d, a, b, v, x, rfl, ht, hs, hl, hd, hz, q⟩ := h
  obtain ⟨u, rfl, ru⟩ := vals1 r
  obtain ⟨as, hr, hn⟩ := Dt.reads I x v u ht ru
  have byRef : ∀ p : Addr, u = .ref p → wpAny (model X.prog X.w) X.A (call (.builtin "repr") [u]) (EP X pins σ Q) X.xe s := by
    intro p e
    subst e
    refine repr_of_reads' hr hs (fun h => hn (hl h)) gd (by omega) (fun _ _ e => e) (fun h' u' tk hk => ?_) hz
    exact ⟨.str x.shown, H, I.kept hk, ⟨u', rfl⟩, q⟩
  cases ht with
  | non =>
    cases ru
    exact PySem.P.repr_of_none ⟨.str _, H, I.tok _, ⟨_, rfl⟩, q⟩
  | bl k =>
    cases ru
    exact PySem.P.repr_of_bool ⟨.str _, H, I.tok _, ⟨_, rfl⟩, q⟩
  | int i =>
    obtain ⟨t, rfl⟩ := ru
    exact PySem.P.repr_of_int (by simpa [PyData.showable] using hs) ⟨.str _, H, I.tok _, ⟨_, rfl⟩, q⟩
  | str y =>
    obtain ⟨t, rfl⟩ := ru
    exact PySem.P.repr_of_str ⟨.str _, H, I.tok _, ⟨_, rfl⟩, q⟩ hz
  | lst h1 h2 h3 => exact byRef _ ru
  | tup h1 h2 h3 => exact byRef _ ru
  | dct h1 h2 => exact byRef _ ru

/-! sizes of texts -/
def lens : List Str → Nat
  | [] => 0
  | t :: r => t.length + 2 + lens r
theorem textFrom_most : ∀ (ts : List Str) (k : Nat) (acc : Str), (textFrom k acc ts).length ≤ acc.length + lens ts
  | [], k, acc => by
    show acc.length ≤ acc.length + 0
    omega
  | t :: r, k, acc => by
    have ih := textFrom_most r (k + 1) (acc ++ (if k > 0 then ", " else "" : String) ++ t)
    have e : (acc ++ ((if k > 0 then ", " else "" : String) : Str) ++ t).length ≤ acc.length + 2 + t.length := by
      rw [strLen_append, strLen_append]
      have : (((if k > 0 then ", " else "" : String) : Str)).length ≤ 2 := by split <;> decide
      omega
    show (textFrom (k + 1) (acc ++ (if k > 0 then ", " else "" : String) ++ t) r).length ≤ acc.length + (t.length + 2 + lens r)
    omega
theorem listText_most (ts : List Str) : (listText ts).length ≤ lens ts + 2 := by
  unfold listText
  rw [strLen_append]
  have h := textFrom_most ts 0 (("[" : String) : Str)
  have e1 : ((("[" : String) : Str)).length = 1 := rfl
  have e2 : ((("]" : String) : Str)).length = 1 := rfl
  omega
theorem join_most : ∀ ts : List Str, (Str.join ", " ts).length ≤ lens ts
  | [] => Nat.zero_le _
  | x :: r => by
    have h := join_length_add (x :: r) (by simp)
    have e : ∀ l : List Str, piled l = lens l := by
      intro l
      induction l with
      | nil => rfl
      | cons y l ih =>
        simp only [piled, lens, List.map_cons, List.sum_cons] at ih ⊢
        omega
    rw [e] at h
    omega
theorem tupleText_most (ts : List Str) : (tupleText ts).length ≤ lens ts + 3 := by
  unfold tupleText
  rw [strLen_append, strLen_append]
  have h := join_most ts
  have e1 : ((("(" : String) : Str)).length = 1 := rfl
  have e2 : (((if ts.length == 1 then ",)" else ")" : String) : Str)).length ≤ 2 := by split <;> decide
  omega
/-! fit to be shown, in at most n signs, at most k deep -/
structure Gd (x : PyData) (n k : Nat) : Prop where
  sh : x.showable = true
  dl : x.hasDict = true → hasL x = false
  dp : x.depth ≤ k
  ln : x.shown.length ≤ n
structure GdAll (xs : List PyData) (n k : Nat) : Prop where
  sh : PyData.showableAll xs = true
  dl : PyData.hasDictAll xs = true → hasLAll xs = false
  nd : PyData.hasDictAll xs = false ∨ hasLAll xs = false
  dp : PyData.depthAll xs ≤ k
  ln : lens (PyData.shownAll xs) ≤ n
theorem Gd.mono {x : PyData} {n k n' k' : Nat} (h : Gd x n k) (hn : n ≤ n') (hk : k ≤ k') : Gd x n' k' := ⟨h.sh, h.dl, by have := h.dp; omega, by have := h.ln; omega⟩
theorem gd_non : Gd .none 4 0 := ⟨by simp [PyData.showable], by simp [PyData.hasDict], by simp [PyData.depth], by simp only [PyData.shown]; decide⟩
theorem gd_bl (b : Bool) : Gd (.bool b) 5 0 := ⟨by simp [PyData.showable], by simp [PyData.hasDict], by simp [PyData.depth], by simp only [PyData.shown]; cases b <;> decide⟩
theorem gd_int {i : Int} (h : i.natAbs < 10 ^ 60) : Gd (.int i) 61 0 := by
  refine ⟨?_, by simp [PyData.hasDict], by simp [PyData.depth], ?_⟩
  · simp only [PyData.showable, decide_eq_true_eq]
    exact PySem.Flt.log2_lt_of (by decide) (Nat.lt_trans h (by decide +kernel))
  · simp only [PyData.shown]
    rw [PySem.ofString_length]
    exact int_text_length_le10 (by decide) h
theorem gd_str {x : Str} {n : Nat} (h : (reprText x).length ≤ n) : Gd (.str x) n 0 := ⟨by simp [PyData.showable], by simp [PyData.hasDict], by simp [PyData.depth], by simp only [PyData.shown]; exact h⟩
theorem gd_dct : Gd (.dict []) 2 1 := ⟨by simp [PyData.showable, PyData.showableKv], by simp [hasL], by simp [PyData.depth, PyData.depthKv], by simp only [PyData.shown, PyData.shownKv]; decide⟩
theorem gd_tup {xs : List PyData} {n k : Nat} (h : GdAll xs n k) : Gd (.tuple xs) (n + 3) (k + 1) := by
  refine ⟨by simpa [PyData.showable] using h.sh, fun q => ?_, by simp only [PyData.depth]; have := h.dp; omega, ?_⟩
  · simp only [hasL]
    exact h.dl (by simpa [PyData.hasDict] using q)
  · simp only [PyData.shown]
    exact Nat.le_trans (tupleText_most _) (by have := h.ln; omega)
theorem gd_lst {xs : List PyData} {n k : Nat} (h : GdAll xs n k) (hd : PyData.hasDictAll xs = false) : Gd (.list xs) (n + 2) (k + 1) := by
  refine ⟨by simpa [PyData.showable] using h.sh, fun q => ?_, by simp only [PyData.depth]; have := h.dp; omega, ?_⟩
  · rw [PyData.hasDict, hd] at q
    cases q
  · simp only [PyData.shown]
    exact Nat.le_trans (listText_most _) (by have := h.ln; omega)
/-- plain: neither a list nor a dict within -/
structure Pl (x : PyData) : Prop where
  l : hasL x = false
  d : x.hasDict = false
structure PlAll (xs : List PyData) : Prop where
  l : hasLAll xs = false
  d : PyData.hasDictAll xs = false
theorem pl_int (i : Int) : Pl (.int i) := ⟨by simp [hasL], by simp [PyData.hasDict]⟩
theorem pl_tup {xs : List PyData} (h : PlAll xs) : Pl (.tuple xs) := ⟨by simpa [hasL] using h.l, by simpa [PyData.hasDict] using h.d⟩
theorem gdall_nil : GdAll [] 0 0 := ⟨by simp [PyData.showableAll], by simp [PyData.hasDictAll], .inl (by simp [PyData.hasDictAll]), by simp [PyData.depthAll], by simp [PyData.shownAll, lens]⟩
theorem plall_nil : PlAll [] := ⟨by simp [hasLAll], by simp [PyData.hasDictAll]⟩
theorem plall_cons {x : PyData} {xs : List PyData} (h : Pl x) (hs : PlAll xs) : PlAll (x :: xs) := ⟨by simp [hasLAll, h.l, hs.l], by simp [PyData.hasDictAll, h.d, hs.d]⟩
/-- one of the two is plain -/
theorem gdall_cons {x : PyData} {xs : List PyData} {n k m : Nat} (h : Gd x n k) (hs : GdAll xs m k) (p : Pl x ∨ PlAll xs) : GdAll (x :: xs) (n + 2 + m) k := by
  refine ⟨by simp [PyData.showableAll, h.sh, hs.sh], fun q => ?_, ?_, by simp only [PyData.depthAll]; exact Nat.max_le.mpr ⟨h.dp, hs.dp⟩, ?_⟩
  · simp only [PyData.hasDictAll, Bool.or_eq_true] at q
    simp only [hasLAll, Bool.or_eq_false_iff]
    rcases p with p | p
    · rcases q with q | q
      · rw [p.d] at q; cases q
      · exact ⟨p.l, hs.dl q⟩
    · rcases q with q | q
      · exact ⟨h.dl q, p.l⟩
      · rw [p.d] at q; cases q
  · rcases p with p | p
    · rcases hs.nd with q | q
      · exact .inl (by simp [PyData.hasDictAll, p.d, q])
      · exact .inr (by simp [hasLAll, p.l, q])
    · cases q : x.hasDict with
      | false => exact .inl (by simp [PyData.hasDictAll, p.d, q])
      | true => exact .inr (by simp [hasLAll, p.l, h.dl q])
  · simp only [PyData.shownAll, lens]
    have := h.ln
    have := hs.ln
    omega
theorem gdall_mono {xs : List PyData} {n k n' k' : Nat} (h : GdAll xs n k) (hn : n ≤ n') (hk : k ≤ k') : GdAll xs n' k' := ⟨h.sh, h.dl, h.nd, by have := h.dp; omega, by have := h.ln; omega⟩
end Fr

set_option Elab.async false
set_option linter.all false
set_option maxRecDepth 100000
namespace Fr
open PySem PySem.Spec PyProof.Rows L2
/-! callees by their names -/
structure Callee (P : Program) (w : World) (K : PySem.W.Frag) (mg : Str → Option Value) (base : Heap) (k : Nat) (x : Str) (ps : List Str) (sp : Sp) : Prop where
  ex : ∃ f fd, FnOk P w K mg base CX0 k f fd ps sp ∧ mg x = some (.ref f) ∧ PySem.W.keepIn K (.ref f) = true ∧ Binds K fd ps []
theorem pe_u {X : Cx} {k j : Nat} {x : Str} {ps : List Str} {sp : Sp} {p pos : Pos} {e : Expr} {es : List Expr} {t : TA}
    (c : Callee X.prog X.w X.K X.mg X.base k x ps sp) (hr : Room j X.A) (hg : Gl X x) (ha : PA X (e :: es) t)
    (hkj : k ≤ j := by first | decide | exact Nat.le_refl _) (hdb : (x == ("__debug__" : Str)) = false := by decide)
    (he : starEach (e :: es) X.env = (false, eval e X.env) :: starEach es X.env := by rfl)
    (hpl : (backTo pos (starEach es X.env)).any (·.1) = false := by rfl) :
    PE X (.Call (.Name x p) (e :: es) [] pos) (tCall sp [] E0 t) := by
  obtain ⟨f, fd, F, gf, kf, bf⟩ := c.ex
  exact pe_call F (hr.mono hkj) hg gf kf bf .nil pass0 ha hdb he hpl
theorem Callee.mk' {P : Program} {w : World} {K : PySem.W.Frag} {mg : Str → Option Value} {base : Heap} {k : Nat} {x q : Str} {st : Stmt} {ps : List Str} {sp : Sp}
    {f : Addr} {fd : FuncData} (F : Fun K x q st f fd) (g : mg x = some (.ref f)) (b : Binds K fd ps [])
    (ok : FnOk P w K mg base CX0 k f fd ps sp) : Callee P w K mg base k x ps sp := ⟨⟨f, fd, ok, g, F.kp, b⟩⟩
/-! numbers -/
theorem at0 {x : V} {r : List V} : atI (x :: r) 0 = some x := atI_nat (j := 0) rfl
theorem at1 {x y : V} {r : List V} : atI (x :: y :: r) 1 = some y := atI_nat (j := 1) rfl
theorem at2 {x y z : V} {r : List V} : atI (x :: y :: z :: r) 2 = some z := atI_nat (j := 2) rfl
theorem dp_ints {K : PySem.W.Frag} {H : Hp} : ∀ l : List Int, DpAll K H (l.map V.int) (l.map PyData.int)
  | [] => .nil
  | _ :: l => .cons (.int _) (dp_ints l)
theorem lay_ints : ∀ l : List Int, PyData.canLayAll0 (l.map PyData.int) = true
  | [] => by simp [PyData.canLayAll0]
  | i :: l => by simp [PyData.canLayAll0, PyData.canLay0, lay_ints l]
theorem depth_ints : ∀ l : List Int, PyData.depthAll (l.map PyData.int) = 0
  | [] => by simp [PyData.depthAll]
  | i :: l => by simp [PyData.depthAll, PyData.depth, depth_ints l]
theorem shaped_ints (l : List Int) : SeqAt.shaped (.list (l.map PyData.int)) = true := by
  simp [SeqAt.shaped, PyData.canLay0, PyData.depth, lay_ints, depth_ints]
theorem shaped_nil : SeqAt.shaped (.list []) = true := shaped_ints []
theorem ix_first {x : Int} {r : List Int} : ixN ((x :: r).map V.int).length 0 = some 0 := by
  simp [ixN]
theorem eqv_nil (xs : List PyData) : PyData.eqv (.list xs) (.list []) = xs.isEmpty := by
  cases xs <;> simp [PyData.eqv, PyData.eqvAll]
theorem eqv_nilT (xs : List PyData) : PyData.eqv (.tuple xs) (.tuple []) = xs.isEmpty := by
  cases xs <;> simp [PyData.eqv, PyData.eqvAll]
end Fr

set_option Elab.async false
set_option linter.all false
set_option maxRecDepth 100000
namespace Fr
open PySem PySem.Spec PyProof.Rows L2
section
variable {X : Cx}
/-! a list of anything held against [] -/
def rNeE (K : PySem.W.Frag) : R2 := fun x y H Q => ∃ p q xs, x = .ref p ∧ y = .ref q ∧ SqL K H p xs ∧ SqL K H q [] ∧ Q (.bl (!xs.isEmpty)) H
def rEqE (K : PySem.W.Frag) : R2 := fun x y H Q => ∃ p q xs, x = .ref p ∧ y = .ref q ∧ SqL K H p xs ∧ SqL K H q [] ∧ Q (.bl xs.isEmpty) H
theorem op_neE (hu : X.A.units + 64 < cLine) : OpR X (compareOp .NotEq) (rNeE X.K) := by
  intro pins s σ H x y v u Q I rx ry h
  obtain ⟨p, q, xs, rfl, rfl, h1, h2, z⟩ := h
  cases rx
  cases ry
  obtain ⟨is, rv, l1, _⟩ := I.list h1
  obtain ⟨js, rw', l2, _⟩ := I.list h2
  cases rw'
  cases xs with
  | nil =>
    cases rv
    exact SeqAt.RcNeAt.lists (e := fun _ => true) l1.isList l2.isList rfl (by omega) (fun j a _ => absurd a (Nat.not_lt_zero _)) _ _ _ _ ⟨.bl _, H, I, rfl, z⟩
  | cons y xs =>
    cases rv
    exact SeqAt.RcNeAt.lists_lengths l1.isList l2.isList (by simp) (by omega) _ _ _ _ ⟨.bl _, H, I, rfl, z⟩
theorem op_eqE (hu : X.A.units + 64 < cLine) : OpR X (compareOp .Eq) (rEqE X.K) := by
  intro pins s σ H x y v u Q I rx ry h
  obtain ⟨p, q, xs, rfl, rfl, h1, h2, z⟩ := h
  cases rx
  cases ry
  obtain ⟨is, rv, l1, _⟩ := I.list h1
  obtain ⟨js, rw', l2, _⟩ := I.list h2
  cases rw'
  cases xs with
  | nil =>
    cases rv
    exact SeqAt.RcAt.lists (e := fun _ => true) l1.isList l2.isList rfl (by omega) (fun j a _ => absurd a (Nat.not_lt_zero _)) _ _ _ _ ⟨.bl _, H, I, rfl, z⟩
  | cons y xs =>
    cases rv
    exact SeqAt.RcAt.lists_lengths l1.isList l2.isList (by simp) (by omega) _ _ _ _ ⟨.bl _, H, I, rfl, z⟩
end
/-! t[::-1] of a tuple -/
theorem places_back (n : Nat) : Builtin.Slice.slicePlaces ((n : Int) - 1) (-1) (-1) = n := by
  unfold Builtin.Slice.slicePlaces
  rw [if_neg (by decide)]
  by_cases h : (n : Int) - 1 > -1
  · rw [if_pos h]
    have e0 : (- -1 : Int) = 1 := by decide
    have e : ((n : Int) - 1 - -1 - 1) / (- -1) + 1 = n := by
      rw [e0, Int.ediv_one]
      omega
    rw [e]
    exact Int.toNat_natCast n
  · rw [if_neg h]
    have e : n = 0 := by omega
    rw [e]
    rfl
theorem pick_back (xs : Array Value) : ((List.range xs.size).filterMap fun (k : Nat) => xs[(((xs.size : Int) - 1) + (k : Int) * -1).toNat]?).toArray = xs.toList.reverse.toArray := by
  congr 1
  have e2 : ∀ l : List Nat, (∀ k ∈ l, k < xs.size) → l.filterMap (fun (k : Nat) => xs[(((xs.size : Int) - 1) + (k : Int) * -1).toNat]?) = (l.map fun k => xs.size - 1 - k).filterMap (xs[·]?) := by
    intro l
    induction l with
    | nil => intro _; rfl
    | cons k l ih =>
      intro hk
      have hk1 := hk k List.mem_cons_self
      have e3 : (((xs.size : Int) - 1) + (k : Int) * -1).toNat = xs.size - 1 - k := by omega
      rw [List.map_cons, List.filterMap_cons, List.filterMap_cons, ih fun j hj => hk j (List.mem_cons_of_mem _ hj), e3]
  rw [e2 _ fun k hk => List.mem_range.mp hk, PySem.W.krv_range, List.filterMap_reverse, PySem.W.krv_all]
theorem getItem_back {prog : Program} {w : World} {A : Around} {E : Value → Shared → Prop} {s : Shared} {t sl : Addr} {items : Array Value} {vl vu vs : Value} {Q : Value → Shared → Prop}
    (ht : IsTup s.heap t items) (hs : s.heap.IsSliceOf sl vl vu vs) (pl : IsPart vl none) (pu : IsPart vu none) (ps : IsPart vs (some (-1)))
    (h : Q (.ref s.heap.objs.size) { s with heap := s.heap.push { cls := .type "tuple", data := .seq items.toList.reverse.toArray } })
    (hsz : items.size ≤ sizeLine) : wpAny (model prog w) A (getItem (.ref t) (.ref sl)) Q E s := by
  obtain ⟨os, hos, hcs, hds⟩ := id hs
  have hTs : s.TypeIs (.ref sl) "slice" := ⟨os, hos, hcs⟩
  unfold getItem
  try with_reducible refine wpAny_holding ?_
  try refine wpAny_bind (wpAny_pure ?_)
  refine wpAny_bind (wpAny_sequenceKey (ht.typeIs) (by decide) (wpAny_bind
    (wpAny_callSpecial?_slot (name := Str.ofString "__getitem__") (ht.typeIs) slot_tuple_getitem
      (wpAny_call_entry slot_tuple_getitem (ht.typeIs) entry_tuple_getitem ?_ (args_tuple_getitem _ _)))))
  show wpAny _ _ ((Builtin.Tuple.tupleItemsOf (.ref t)) >>= _) _ _ s
  refine wpAny_bind (tupleItemsOf_ ht (wpAny_bind (wpAny_typeOf hTs ?_)))
  rw [if_pos (by decide)]
  have app : ∀ {Q' : Int × Int × Nat → Shared → Prop}, Q' ((items.size : Int) - 1, -1, items.size) s →
      wpAny (model prog w) A.in1 (Builtin.Slice.sliceApplied (.ref sl) (pure (items.size : Int))) Q' E s := by
    intro Q' q
    unfold Builtin.Slice.sliceApplied Builtin.Slice.sliceFields
    refine wpAny_bind (wpAny_bind (wpAny_field hos hds (x := vl) rfl (wpAny_bind (wpAny_field hos hds (x := vu) rfl
      (wpAny_bind (wpAny_field hos hds (x := vs) rfl (wpAny_pure ?_)))))))
    refine wpAny_bind (HT.slicePart_ ps ?_)
    show wpAny _ _ (if ((-1 : Int) == 0) = true then _ else _) _ _ s
    rw [if_neg (by decide)]
    refine wpAny_bind (HT.slicePart_ pl (wpAny_bind (HT.slicePart_ pu (wpAny_bind (wpAny_pure ?_)))))
    show wpAny _ _ (pure (((items.size : Int) - 1), (-1 : Int), Builtin.Slice.slicePlaces ((items.size : Int) - 1) (-1) (-1))) _ _ s
    rw [places_back]
    exact wpAny_pure q
  have fits : sizeOk (.seq items.toList.reverse.toArray) := by
    show items.toList.reverse.toArray.size ≤ sizeLine
    rw [List.size_toArray, List.length_reverse, Array.length_toList]
    exact hsz
  first
  | refine wpAny_bind (app ?_)
  | (refine wpAny_bind ?_; trace_state)
  show wpAny _ _ (if (((items.size : Int) - 1) == 0 && (-1 : Int) == 1 && items.size == items.size) = true then _ else _) _ _ s
  rw [if_neg (by simp), pick_back]
  first
    | exact wpAny_bind (m := Builtin.Tuple.tupleExact _) (wpAny_newObj_type (wpAny_pure ⟨_, rfl, wpAny_pure h⟩) fits)
    | exact wpAny_bind (m := Builtin.Tuple.tupleExact _) (wpAny_newObj_type (wpAny_bind (wpAny_pure (wpAny_pure ⟨_, rfl, wpAny_pure h⟩))) fits)
section
variable {X : Cx}
def tRevT (K : PySem.W.Frag) (te : TE) : TE := fun σ H Q => te σ H fun x H1 => ∃ a xs, x = .ref a ∧ SqT K H1 a xs ∧ ∀ p, H1 p = none → Q (.ref p) (upd H1 p (.tup xs.reverse))
theorem pe_revT {e : Expr} {te : TE} {k : Nat} {p1 p2 p3 pos : Pos} (he : PE X e te) :
    PE X (.Subscript e (.Slice none none (some (.UnaryOp .USub (.Constant (.int 1) k p1) p2)) p3) pos) (tRevT X.K te) := by
  refine ⟨fun pins s σ H Q I h => Subscript_ (thn (he.run pins s σ H _ I h) fun v s1 ⟨x, H1, I1, r1, a, xs, ex, hx, q⟩ => ?_)⟩
  subst ex
  cases r1
  have back : PO X (some (.UnaryOp .USub (.Constant (.int 1) k p1) p2)) (tPart (tUn (rU fun i => .int (-i)) (tC (.int 1)))) := po_some (pe_un un_neg pe_int)
  refine wpAny_Slice (thn (po_none.run pins s1 σ H1 (fun o G => o = none ∧ G = H1) I1 ⟨rfl, rfl⟩) fun vl s2 ⟨o2, H2, I2, pl, e1, e2⟩ => ?_)
  subst e1 e2
  refine thn (po_none.run pins s2 σ H2 (fun o G => o = none ∧ G = H2) I2 ⟨rfl, rfl⟩) fun vu s3 ⟨o3, H3, I3, pu, e1, e2⟩ => ?_
  subst e1 e2
  refine thn (back.run pins s3 σ H3 (fun o G => o = some (-1) ∧ G = H3) I3 ⟨1, rfl, -1, rfl, rfl, rfl⟩) fun vs s4 ⟨o4, H4, I4, ps, e1, e2⟩ => ?_
  subst e1 e2
  have J := I4.kept (h' := s4.heap.push { cls := .type "slice", data := .fields #[vl, vu, vs] }) (t' := s4.toks) fun b ob z => Heap.get?_push_of_some _ z
  obtain ⟨its, r, ht, hz⟩ := J.tuple hx
  refine tail_any (ops := [.ref a, .ref s4.heap.objs.size]) ht.typeIs PyProof.Rows.slot_tuple_getitem.lookup ?_ (by with_unfolding_all rfl)
  refine getItem_back ht (Heap.IsSliceOf.new _ vl vu vs) pl pu ps ?_ (by rw [List.size_toArray, ← r.length]; exact hz)
  refine ⟨.ref _, _, J.laid (t' := s4.toks) (o := .tup xs.reverse) (fun b ob z => Heap.get?_push_of_some _ z) (Nat.le_refl _) ?_, rfl, q _ (J.hok.fresh (Nat.le_refl _))⟩
  exact ⟨by rw [List.length_reverse]; exact hz, _, r.reverse, ⟨_, Heap.get?_push_size _ rfl, rfl, _, rfl⟩⟩
end
end Fr

set_option Elab.async false
set_option linter.all false
set_option maxRecDepth 100000
namespace Fr
open PySem PySem.Spec PyProof.Rows L2
/-! what a thing is an instance of -/
def tyN : PyData → String
  | .none => "NoneType"
  | .bool _ => "bool"
  | .int _ => "int"
  | .str _ => "str"
  | .list _ => "list"
  | .tuple _ => "tuple"
  | .dict _ => "dict"
def isI : PyData → Bool
  | .int _ => true
  | .bool _ => true
  | _ => false
theorem kitI_none : kitB "NoneType" "int" = some false := by decide +kernel
theorem kitI_bool : kitB "bool" "int" = some true := by decide +kernel
theorem kitI_int : kitB "int" "int" = some true := by decide +kernel
theorem kitI_str : kitB "str" "int" = some false := by decide +kernel
theorem kitI_list : kitB "list" "int" = some false := by decide +kernel
theorem kitI_tuple : kitB "tuple" "int" = some false := by decide +kernel
theorem kitI_dict : kitB "dict" "int" = some false := by decide +kernel
theorem kit_I : ∀ x : PyData, kitB (tyN x) "int" = some (isI x)
  | .none => kitI_none
  | .bool _ => kitI_bool
  | .int _ => kitI_int
  | .str _ => kitI_str
  | .list _ => kitI_list
  | .tuple _ => kitI_tuple
  | .dict _ => kitI_dict
def isB : PyData → Bool
  | .bool _ => true
  | _ => false
theorem kitB_none : kitB "NoneType" "bool" = some false := by decide +kernel
theorem kitB_bool : kitB "bool" "bool" = some true := by decide +kernel
theorem kitB_int : kitB "int" "bool" = some false := by decide +kernel
theorem kitB_str : kitB "str" "bool" = some false := by decide +kernel
theorem kitB_list : kitB "list" "bool" = some false := by decide +kernel
theorem kitB_tuple : kitB "tuple" "bool" = some false := by decide +kernel
theorem kitB_dict : kitB "dict" "bool" = some false := by decide +kernel
theorem kit_B : ∀ x : PyData, kitB (tyN x) "bool" = some (isB x)
  | .none => kitB_none
  | .bool _ => kitB_bool
  | .int _ => kitB_int
  | .str _ => kitB_str
  | .list _ => kitB_list
  | .tuple _ => kitB_tuple
  | .dict _ => kitB_dict
def isT : PyData → Bool
  | .tuple _ => true
  | _ => false
theorem kitT_none : kitB "NoneType" "tuple" = some false := by decide +kernel
theorem kitT_bool : kitB "bool" "tuple" = some false := by decide +kernel
theorem kitT_int : kitB "int" "tuple" = some false := by decide +kernel
theorem kitT_str : kitB "str" "tuple" = some false := by decide +kernel
theorem kitT_list : kitB "list" "tuple" = some false := by decide +kernel
theorem kitT_tuple : kitB "tuple" "tuple" = some true := by decide +kernel
theorem kitT_dict : kitB "dict" "tuple" = some false := by decide +kernel
theorem kit_T : ∀ x : PyData, kitB (tyN x) "tuple" = some (isT x)
  | .none => kitT_none
  | .bool _ => kitT_bool
  | .int _ => kitT_int
  | .str _ => kitT_str
  | .list _ => kitT_list
  | .tuple _ => kitT_tuple
  | .dict _ => kitT_dict
def isS : PyData → Bool
  | .str _ => true
  | _ => false
theorem kitS_none : kitB "NoneType" "str" = some false := by decide +kernel
theorem kitS_bool : kitB "bool" "str" = some false := by decide +kernel
theorem kitS_int : kitB "int" "str" = some false := by decide +kernel
theorem kitS_str : kitB "str" "str" = some true := by decide +kernel
theorem kitS_list : kitB "list" "str" = some false := by decide +kernel
theorem kitS_tuple : kitB "tuple" "str" = some false := by decide +kernel
theorem kitS_dict : kitB "dict" "str" = some false := by decide +kernel
theorem kit_S : ∀ x : PyData, kitB (tyN x) "str" = some (isS x)
  | .none => kitS_none
  | .bool _ => kitS_bool
  | .int _ => kitS_int
  | .str _ => kitS_str
  | .list _ => kitS_list
  | .tuple _ => kitS_tuple
  | .dict _ => kitS_dict
def isL : PyData → Bool
  | .list _ => true
  | _ => false
theorem kitL_none : kitB "NoneType" "list" = some false := by decide +kernel
theorem kitL_bool : kitB "bool" "list" = some false := by decide +kernel
theorem kitL_int : kitB "int" "list" = some false := by decide +kernel
theorem kitL_str : kitB "str" "list" = some false := by decide +kernel
theorem kitL_list : kitB "list" "list" = some true := by decide +kernel
theorem kitL_tuple : kitB "tuple" "list" = some false := by decide +kernel
theorem kitL_dict : kitB "dict" "list" = some false := by decide +kernel
theorem kit_L : ∀ x : PyData, kitB (tyN x) "list" = some (isL x)
  | .none => kitL_none
  | .bool _ => kitL_bool
  | .int _ => kitL_int
  | .str _ => kitL_str
  | .list _ => kitL_list
  | .tuple _ => kitL_tuple
  | .dict _ => kitL_dict

section
variable {d a : Addr} {b : Sd} {H : Hp} {K : PySem.W.Frag} {v : V} {x : PyData}
theorem Dt.ty (h : Dt d a b H v x) : TyX K H v (.type (tyN x)) := by
  cases h with
  | non => exact .base .non
  | bl k => exact .base (.bl k)
  | int i => exact .base (.int i)
  | str y => exact .base (.str y)
  | lst h1 h2 h3 => exact .base (.lst h1)
  | tup h1 h2 h3 => exact .base (.tup h1)
  | dct h1 h2 => exact .base (.dK h1)
end
/-! a whole number; one from lo to hi -/
def isW : PyData → Bool
  | .int _ => true
  | _ => false
def inR (lo hi : Int) : PyData → Bool
  | .int i => decide (lo ≤ i) && decide (i ≤ hi)
  | _ => false
theorem isW_eq (x : PyData) : isW x = (isI x && !isB x) := by cases x <;> rfl
theorem of_isW {d a : Addr} {b : Sd} {H : Hp} {v : V} {x : PyData} (h : Dt d a b H v x) (w : isW x = true) : ∃ i, v = .int i ∧ x = .int i := by
  cases h with
  | int i => exact ⟨i, rfl, rfl⟩
  | _ => cases w
theorem inR_no {lo hi : Int} {x : PyData} (w : isW x = false) : inR lo hi x = false := by
  cases x with
  | int i => cases w
  | _ => rfl
end Fr

set_option Elab.async false
set_option linter.all false
set_option maxRecDepth 100000
namespace Fr
open PySem PySem.Spec PyProof.Rows L2
theorem Callee.mono {P : Program} {w : World} {K : PySem.W.Frag} {mg : Str → Option Value} {base : Heap} {j k : Nat} {x : Str} {ps : List Str} {sp : Sp}
    (c : Callee P w K mg base j x ps sp) (h : j ≤ k) : Callee P w K mg base k x ps sp := by
  obtain ⟨f, fd, F, r⟩ := c.ex
  exact ⟨⟨f, fd, F.mono h, r⟩⟩
/-! things as they are drawn: numbers below 10 ** 13, tuples of at most twelve such -/
mutual
def bs : PyData → Bool
  | .int i => decide (i.natAbs < 10 ^ 13)
  | .tuple xs => decide (xs.length ≤ 12) && bsAll xs
  | _ => false
def bsAll : List PyData → Bool
  | [] => true
  | x :: xs => bs x && bsAll xs
end
def szS : Nat → Nat
  | 0 => 63
  | n + 1 => 12 * (szS n + 2) + 3
theorem szS_ge : ∀ n, 63 ≤ szS n
  | 0 => Nat.le_refl _
  | n + 1 => by
    have := szS_ge n
    show 63 ≤ 12 * (szS n + 2) + 3
    omega
mutual
theorem bs_gd : ∀ (x : PyData) (n : Nat), bs x = true → x.depth ≤ n → Gd x (szS n) n ∧ Pl x
  | .int i, n, h, _ => by
    have h : i.natAbs < 10 ^ 13 := by simpa [bs] using h
    exact ⟨(gd_int (Nat.lt_trans h (by decide))).mono (by have := szS_ge n; omega) (Nat.zero_le _), pl_int i⟩
  | .tuple xs, 0, _, hd => by
    simp [PyData.depth] at hd
  | .tuple xs, n + 1, h, hd => by
    simp only [bs, Bool.and_eq_true, decide_eq_true_eq] at h
    have hd : PyData.depthAll xs ≤ n := by simpa [PyData.depth] using hd
    obtain ⟨g, p⟩ := bs_gdAll xs n h.2 hd
    refine ⟨(gd_tup g).mono ?_ (Nat.le_refl _), pl_tup p⟩
    show xs.length * (szS n + 2) + 3 ≤ 12 * (szS n + 2) + 3
    have := Nat.mul_le_mul_right (szS n + 2) h.1
    omega
  | .none, _, h, _ => by simp [bs] at h
  | .bool _, _, h, _ => by simp [bs] at h
  | .str _, _, h, _ => by simp [bs] at h
  | .list _, _, h, _ => by simp [bs] at h
  | .dict _, _, h, _ => by simp [bs] at h
theorem bs_gdAll : ∀ (xs : List PyData) (n : Nat), bsAll xs = true → PyData.depthAll xs ≤ n → GdAll xs (xs.length * (szS n + 2)) n ∧ PlAll xs
  | [], n, _, _ => ⟨gdall_mono gdall_nil (Nat.zero_le _) (Nat.zero_le _), plall_nil⟩
  | x :: xs, n, h, hd => by
    simp only [bsAll, Bool.and_eq_true] at h
    simp only [PyData.depthAll, Nat.max_le] at hd
    obtain ⟨g, p⟩ := bs_gd x n h.1 hd.1
    obtain ⟨gs, ps⟩ := bs_gdAll xs n h.2 hd.2
    refine ⟨gdall_mono (gdall_cons g gs (.inl p)) ?_ (Nat.le_refl _), plall_cons p ps⟩
    rw [List.length_cons, Nat.add_mul, Nat.one_mul]
    omega
end
mutual
theorem bs_lay : ∀ (x : PyData), bs x = true → x.canLay0 = true
  | .int i, _ => by simp [PyData.canLay0]
  | .tuple xs, h => by
    simp only [bs, Bool.and_eq_true] at h
    simpa [PyData.canLay0] using bs_layAll xs h.2
  | .none, h => by simp [bs] at h
  | .bool _, h => by simp [bs] at h
  | .str _, h => by simp [bs] at h
  | .list _, h => by simp [bs] at h
  | .dict _, h => by simp [bs] at h
theorem bs_layAll : ∀ (xs : List PyData), bsAll xs = true → PyData.canLayAll0 xs = true
  | [], _ => by simp [PyData.canLayAll0]
  | x :: xs, h => by
    simp only [bsAll, Bool.and_eq_true] at h
    simp [PyData.canLayAll0, bs_lay x h.1, bs_layAll xs h.2]
end
theorem bsAll_iff : ∀ xs : List PyData, bsAll xs = true ↔ ∀ x ∈ xs, bs x = true
  | [] => by simp [bsAll]
  | x :: xs => by simp [bsAll, bsAll_iff xs]
theorem depthAll_le : ∀ (xs : List PyData) (n : Nat), PyData.depthAll xs ≤ n ↔ ∀ x ∈ xs, x.depth ≤ n
  | [], n => by simp [PyData.depthAll]
  | x :: xs, n => by simp [PyData.depthAll, Nat.max_le, depthAll_le xs n]
section
variable {d a : Addr} {b : Sd} {H : Hp} {K : PySem.W.Frag}
mutual
theorem Dt.dp : ∀ (x : PyData) (v : V), Dt d a b H v x → bs x = true → Dp K H v x
  | .int _, _, .int i, _ => .int i
  | .tuple _, _, .tup h _ r, hb => .tup (SqT.of h) (DtAll.dp _ _ r (by simp only [bs, Bool.and_eq_true] at hb; exact hb.2))
  | .none, _, .non, h => by simp [bs] at h
  | .bool _, _, .bl _, h => by simp [bs] at h
  | .str _, _, .str _, h => by simp [bs] at h
  | .list _, _, .lst _ _ _, h => by simp [bs] at h
  | .dict _, _, .dct _ _, h => by simp [bs] at h
theorem DtAll.dp : ∀ (xs : List PyData) (vs : List V), DtAll d a b H vs xs → bsAll xs = true → DpAll K H vs xs
  | [], _, .nil, _ => .nil
  | _ :: _, _, .cons h r, hb => by
    simp only [bsAll, Bool.and_eq_true] at hb
    exact .cons (Dt.dp _ _ h hb.1) (DtAll.dp _ _ r hb.2)
end
theorem DtAll.take : ∀ {vs : List V} {xs : List PyData} (n : Nat), DtAll d a b H vs xs → DtAll d a b H (vs.take n) (xs.take n)
  | _, _, 0, _ => .nil
  | _, _, _ + 1, .nil => .nil
  | _, _, n + 1, .cons h r => .cons h (DtAll.take n r)
theorem DtAll.drop : ∀ {vs : List V} {xs : List PyData} (n : Nat), DtAll d a b H vs xs → DtAll d a b H (vs.drop n) (xs.drop n)
  | _, _, 0, r => r
  | _, _, _ + 1, .nil => .nil
  | _, _, n + 1, .cons _ r => DtAll.drop n r
theorem DtAll.reverse : ∀ {vs : List V} {xs : List PyData}, DtAll d a b H vs xs → DtAll d a b H vs.reverse xs.reverse
  | _, _, .nil => .nil
  | _, _, .cons h r => by
    rw [List.reverse_cons, List.reverse_cons]
    exact (DtAll.reverse r).append (.cons h .nil)
end
/-! slices and sums of tuples -/
theorem cut_to (xs : List V) (n : Nat) : cutV xs none (some (n : Int)) = xs.take n := by
  unfold cutV
  rw [HT.sIx_none, HT.sIx_nat, List.drop_zero, Nat.sub_zero]
  by_cases h : n ≤ xs.length
  · rw [Nat.min_eq_left h]
  · rw [Nat.min_eq_right (by omega), List.take_length, List.take_of_length_le (by omega)]
theorem cut_from (xs : List V) (n : Nat) : cutV xs (some (n : Int)) none = xs.drop n := by
  unfold cutV
  rw [HT.sIx_none, HT.sIx_nat]
  by_cases h : n ≤ xs.length
  · rw [Nat.min_eq_left h, List.take_of_length_le (by rw [List.length_drop]; omega)]
  · rw [Nat.min_eq_right (by omega), Nat.sub_self, List.take_zero, List.drop_of_length_le (by omega)]
theorem cut_last (xs : List V) : cutV xs (some (-1)) none = xs.drop (xs.length - 1) := by
  unfold cutV
  have e : HT.sIx xs.length 0 (some (-1)) = xs.length - 1 := by
    show (if (-1 : Int) < 0 then ((-1 : Int) + (xs.length : Int)).toNat else min (-1 : Int).toNat xs.length) = xs.length - 1
    rw [if_pos (by decide)]
    omega
  rw [HT.sIx_none, e, List.take_of_length_le (by rw [List.length_drop]; omega)]
section
variable {K : PySem.W.Frag} {d a : Addr} {b : Sd} {p q : Addr} {H : Hp} {c : Nat} {xs ys : List V} {Q : VK}
theorem cat_any (D : Deck d a b H c) (hx : H p = some (.tup xs)) (hy : H q = some (.tup ys)) (np : ¬ Own d a b p) (nq : ¬ Own d a b q) (hz : xs.length + ys.length ≤ sizeLine)
    (k : ∀ H' r, Same H H' → Deck d a b H' c → H' r = some (.tup (xs ++ ys)) → ¬ Own d a b r → Q (.ref r) H') : rCatA K (.ref p) (.ref q) H Q := by
  refine ⟨p, q, xs, ys, rfl, rfl, SqT.of hx, SqT.of hy, hz, fun e => ?_, fun _ e => ?_, fun _ _ r nr => k _ r (same_new nr) (D.new nr) upd_same (D.fresh nr)⟩
  · exact k H q (Same.refl H) D (by rw [hy, e]; rfl) nq
  · exact k H p (Same.refl H) D (by rw [hx, e, List.append_nil]) np
theorem sl_any (lo hi : Option Int) (D : Deck d a b H c) (hx : H p = some (.tup xs)) (np : ¬ Own d a b p)
    (k : ∀ H' r, Same H H' → Deck d a b H' c → H' r = some (.tup (cutV xs lo hi)) → ¬ Own d a b r → Q (.ref r) H') : rSlA K (.ref p) lo hi H Q := by
  refine ⟨p, xs, rfl, SqT.of hx, fun e => ?_, fun _ r nr => k _ r (same_new nr) (D.new nr) upd_same (D.fresh nr)⟩
  refine k H p (Same.refl H) D ?_ np
  unfold cutV
  rw [e.1, e.2, List.drop_zero, Nat.sub_zero, List.take_length]
  exact hx
end
theorem sl_from {K : PySem.W.Frag} {d a : Addr} {b : Sd} {p : Addr} {H : Hp} {c : Nat} {xs : List V} {Q : VK} {σ : L2.St} (lo : Option Int) (D : Deck d a b H c) (hx : H p = some (.tup xs)) (np : ¬ Own d a b p)
    (k : ∀ H' r, Same H H' → Deck d a b H' c → H' r = some (.tup (cutV xs lo none)) → ¬ Own d a b r → Q (.ref r) H') : tNoPart σ H (fun u H3 => rSlA K (.ref p) lo u H3 Q) := sl_any lo none D hx np k
theorem repr_num {i : Int} (h : i.natAbs < 10 ^ 13) : (reprText (Str.ofString (toString i))).length ≤ 152 := by
  have e := StrLaws.reprText_len (Str.ofString (toString i)) (fun c hc => by
    have hc2 : c ∈ ((toString i).toList.map fun ch => ch.toNat) := by
      rw [Str.ofString_eq_toList] at hc
      simpa using hc
    obtain ⟨ch, _, rfl⟩ := List.mem_map.mp hc2
    have h1 : ch.toNat < 1114112 := by
      have := ch.valid
      rcases this with h | h
      · exact Nat.lt_trans h (by decide)
      · exact h.2
    exact Nat.lt_trans h1 (by decide))
  have e2 := int_text_length_le10 (k := 13) (by decide) h
  rw [PySem.ofString_length] at e
  omega
end Fr

set_option Elab.async false
set_option linter.all false
set_option maxRecDepth 100000
namespace Fr
open PySem PySem.Spec PyProof.Rows L2
/-! a value that is a thing fit to be shown -/
def Th (d a : Addr) (b : Sd) (H : Hp) (v : V) : Prop := ∃ x, Dt d a b H v x ∧ Gd x 100000 12
section
variable {d a : Addr} {b : Sd} {p : Addr} {H H' : Hp} {v : V}
theorem Th.keep (k : Kp d a b H H') (h : Th d a b H v) : Th d a b H' v := by
  obtain ⟨x, t, g⟩ := h
  exact ⟨x, Dt.keep k _ _ t, g⟩
theorem Th.of {x : PyData} {n k : Nat} (t : Dt d a b H v x) (g : Gd x n k) (hn : n ≤ 100000) (hk : k ≤ 12) : Th d a b H v := ⟨x, t, g.mono hn hk⟩
theorem bsAll_ints {l : List Int} (h : ∀ i ∈ l, i.natAbs < 10 ^ 13) : bsAll (l.map PyData.int) = true := by
  rw [bsAll_iff]
  intro x hx
  obtain ⟨i, hi, rfl⟩ := List.mem_map.mp hx
  simp only [bs, decide_eq_true_eq]
  exact h i hi
theorem bs_ints {l : List Int} (hl : l.length ≤ 12) (h : ∀ i ∈ l, i.natAbs < 10 ^ 13) : bs (.tuple (l.map PyData.int)) = true := by
  simp only [bs, Bool.and_eq_true, decide_eq_true_eq, List.length_map]
  exact ⟨hl, bsAll_ints h⟩
theorem depth_tup (l : List Int) : (PyData.tuple (l.map PyData.int)).depth = 1 := by
  simp only [PyData.depth, depth_ints]
theorem Dt.ints {l : List Int} (h : H p = some (.tup (l.map V.int))) (n : ¬ Own d a b p) : Dt d a b H (.ref p) (.tuple (l.map PyData.int)) := .tup h n (DtAll.ints l)
theorem Th.ints {l : List Int} (h : H p = some (.tup (l.map V.int))) (n : ¬ Own d a b p) (hl : l.length ≤ 12) (hi : ∀ i ∈ l, i.natAbs < 10 ^ 13) : Th d a b H (.ref p) :=
  Th.of (Dt.ints h n) (bs_gd _ 1 (bs_ints hl hi) (by rw [depth_tup]; exact Nat.le_refl _)).1 (by decide) (by decide)
theorem Th.lints {l : List Int} (h : H p = some (.lst (l.map V.int))) (n : ¬ Own d a b p) (hl : l.length ≤ 12) (hi : ∀ i ∈ l, i.natAbs < 10 ^ 13) : Th d a b H (.ref p) := by
  obtain ⟨g, pl⟩ := bs_gdAll (l.map PyData.int) 0 (bsAll_ints hi) (by rw [depth_ints]; exact Nat.le_refl _)
  refine Th.of (.lst h n (DtAll.ints l)) (gd_lst g pl.d) ?_ (by decide)
  rw [List.length_map]
  have := Nat.mul_le_mul_right (szS 0 + 2) hl
  have e : 12 * (szS 0 + 2) = 780 := by decide
  omega
theorem _root_.Fr.Gd.d30 {x : PyData} (g : Gd x 100000 12) : x.depth ≤ 30 := by have := g.dp; omega
theorem _root_.Fr.Gd.sl {x : PyData} (g : Gd x 100000 12) : x.shown.length ≤ sizeLine := Nat.le_trans g.ln (by decide)
theorem gdb (k : Bool) : Gd (.bool k) 100000 12 := (gd_bl k).mono (by decide) (by decide)
/-- what a rule asks of a thing that is shown -/
theorem Th.show {Q : VK} {x : PyData} (t : Dt d a b H v x) (g : Gd x 100000 12) (q : Q (.str x.shown) H) : rShow [v] H Q :=
  ⟨d, a, b, v, x, rfl, t, g.sh, g.dl, by have := g.dp; omega, Nat.le_trans g.ln (by decide), q⟩
end
theorem Th.side {d a y : Addr} {b : Sd} {H : Hp} {v : V} (hb : b.l = none) (hy : H y = none) (h : Th d a b H v) : Th d a ⟨b.b, some y⟩ H v := by
  obtain ⟨x, t, g⟩ := h
  exact ⟨x, Dt.side hb hy _ _ t, g⟩
theorem Th.put {d a y : Addr} {b : Sd} {H : Hp} {v : V} {o : HO} (hy : Own d a b y) (h : Th d a b H v) : Th d a b (upd H y o) v := by
  obtain ⟨x, t, g⟩ := h
  refine ⟨x, Dt.keepO (fun z u e n => ?_) _ _ t, g⟩
  rw [upd_ne fun w => n (by rw [w]; exact hy)]
  exact e
def Ths (d a : Addr) (b : Sd) (H : Hp) (xs : List V) : Prop := ∀ v ∈ xs, Th d a b H v
theorem Ths.keep {d a : Addr} {b : Sd} {H H' : Hp} {xs : List V} (k : Kp d a b H H') (h : Ths d a b H xs) : Ths d a b H' xs := fun v hv => (h v hv).keep k
end Fr

set_option Elab.async false
set_option linter.all false
set_option maxRecDepth 100000
namespace Fr
open PySem PySem.Spec PyProof.Rows L2

def topS (i : Nat) : Stmt := PySem.Challenge.pw_fullrooms_k04_deeds_or_not.main.body.getD i (.Pass ⟨0, 0, 0, 0⟩)

abbrev sDeck : Stmt := topS 8
abbrev nDeck : List Str := ["_law_script", "_law_cells", "_law_cell"]
theorem cDeck : FnScope nDeck ["_law_script"] (defScope sDeck) :=
  ⟨rfl, rfl, rfl, by decide +kernel, rfl, by decide +kernel, by decide +kernel⟩

abbrev sNext : Stmt := topS 9
abbrev nNext : List Str := ["_law_deck_here", "_law_many", "_law_rest", "_law_cell", "_law_mixed"]
theorem cNext : FnScope nNext ["_law_deck_here", "_law_many"] (defScope sNext) :=
  ⟨rfl, rfl, rfl, by decide +kernel, rfl, by decide +kernel, by decide +kernel⟩

abbrev sOne : Stmt := topS 10
abbrev nOne : List Str := ["_law_deck_here", "_law_some"]
theorem cOne : FnScope nOne ["_law_deck_here", "_law_some"] (defScope sOne) :=
  ⟨rfl, rfl, rfl, by decide +kernel, rfl, by decide +kernel, by decide +kernel⟩

section
variable {P : Program} {w : World} {K : PySem.W.Frag} {mg : Str → Option Value} {base : Heap}
def spNext : Sp := fun vs H Q _ => ∃ (d a : Addr) (b : Sd) (m : Int) (c : Nat), vs = [.ref d, .int m] ∧ Deck d a b H c ∧ 0 < m ∧ m < 2 ^ 100 ∧ c < 2 ^ 30 ∧
  ∀ H' r, Deck d a b H' (c + 1) → Kp d a b H H' → 0 ≤ r → r < m → Q (.int r) H'
theorem upd_sd {l : Option Addr} {H : Hp} {p : Addr} {u : HO} (h : ∀ y, l = some y → ∃ o, H y = some o) : ∀ y, l = some y → ∃ o, (upd H p u) y = some o := fun y hy => by
  by_cases e : y = p
  · exact ⟨u, by rw [e]; exact upd_same⟩
  · rw [upd_ne e]
    exact h y hy
theorem small100 {m : Int} (h0 : 0 < m) (h : m < 2 ^ 100) : CDivW i m := wide_div (b := 100) h0 (by omega) (by decide) (by decide)
theorem ok_next {f : Addr} {fd : FuncData} {k : Nat} (F : Fun K "_law_next" "_law_next" sNext f fd) (m_len : mg "len" = none) :
    FnOk P w K mg base CX0 (k + 1) f fd ["_law_deck_here", "_law_many"] spNext := by
  refine F.ok cNext (fun vs H Q E h => ?_) (fun cdv A outer s H vs Q E hr h => ?_)
  · obtain ⟨d, a, b, m, c, rfl, _⟩ := h
    rfl
  · obtain ⟨d, a, b, m, c, rfl, D, m0, m1, hc, q⟩ := h
    refine ⟨_, (pss_cons (ps_while PassesOwn.never (pt_cmpR (op_neD hr.units) (pe_ix ix_list (pv 0) pe_int (fun _ _ => rfl)) (pe_lst pa_nil) (nomark _)) (pss_cons (ps_set (i := 2) cNext.nd rfl (.inl rfl) (pe_ix ix_list (pe_ix ix_list (pv 0) pe_int (fun _ _ => rfl)) pe_int (fun _ _ => rfl)))
        (pss_cons (ps_if (pt_cmpR op_gt (pv 2) pe_int (nomark _)) (pss_cons (ps_asg (pe_op op_fdivW (pv 2) (pv 1)) (pg_sub (pe_ix ix_list (pv 0) pe_int (fun _ _ => rfl)) pe_int set_list))
        (pss_one (ps_ret (pe_op op_mod (pv 2) (pv 1))))) pss_nil)
        (pss_one (ps_expr (pe_bm PySem.F.plainAttrs_list PySem.F.slot_list_pop PySem.F.type_list_pop mt_popAt (pe_ix ix_list (pv 0) pe_int (fun _ _ => rfl)) (pa_cons pe_int pa_nil)))))))
        (pss_cons (ps_asg (pe_op op_add (pe_ix ix_list (pv 0) pe_int (fun _ _ => rfl)) pe_int) (pg_sub (pv 0) pe_int set_list))
        (pss_cons (ps_set (i := 3) cNext.nd rfl (.inl rfl) (pe_op op_mod (pe_ix ix_list (pe_ix ix_list (pv 0) pe_int (fun _ _ => rfl)) (pe_op op_mod (pe_ix ix_list (pv 0) pe_int (fun _ _ => rfl)) (pe_callB call_len_seq (by rfl) m_len PySem.boot_len (pa_cons (pe_ix ix_list (pv 0) pe_int (fun _ _ => rfl)) pa_nil))) (fun _ _ => rfl)) pe_int))
        (pss_cons (ps_set (i := 4) cNext.nd rfl (.inl rfl) (pe_op op_add (pe_op op_add (pe_op op_mul (pv 3) (pe_op op_add pe_int (pe_op op_mul pe_int (pe_ix ix_list (pv 0) pe_int (fun _ _ => rfl))))) (pe_op op_mul (pe_op op_mul pe_int (pe_ix ix_list (pv 0) pe_int (fun _ _ => rfl))) (pe_ix ix_list (pv 0) pe_int (fun _ _ => rfl)))) pe_int))
        (pss_cons (ps_set (i := 4) cNext.nd rfl (.inl rfl) (pe_op op_mod (pv 4) pe_int))
        (pss_one (ps_ret (pe_op op_mod (pe_op op_fdivW (pe_op op_mod (pe_op op_mul (pv 4) (pv 4)) pe_int) pe_int) (pv 1))))))))), ?_⟩
    have nda := D.da
    have ndb := D.db
    have nab := D.ne
    -- the while
    refine ⟨fun z σ H2 => ∃ (y2 y3 y4 : Option V) (big cells : List Int) (n : Int), σ = [some (.ref d), some (.int m), y2, y3, y4] ∧ z = big.length ∧
      H2 d = some (.lst [.ref a, .ref b.b, .int n]) ∧ H2 a = some (.lst (big.map V.int)) ∧ H2 b.b = some (.lst (cells.map V.int)) ∧ big.length ≤ 63 ∧ (∀ z ∈ big, 0 ≤ z) ∧
      0 < cells.length ∧ cells.length ≤ 64 ∧ (∀ z ∈ cells, 0 ≤ z) ∧ 0 ≤ n ∧ n ≤ (c : Int) ∧ Kp d a b H H2 ∧ (∀ y, b.l = some y → ∃ o, H2 y = some o), ?_, fun z σ H2 hW => ?_⟩
    · obtain ⟨big, cells, n, h1, h2, h3, r⟩ := D.ex
      exact ⟨big.length, none, none, none, big, cells, n, rfl, rfl, h1, h2, h3, r.1, r.2.1, r.2.2.1, r.2.2.2.1, r.2.2.2.2.1, r.2.2.2.2.2.1, r.2.2.2.2.2.2, Kp.refl, D.sd⟩
    · obtain ⟨y2, y3, y4, big, cells, n, rfl, rfl, h1, h2, h3, l1, p1, l0, l2, p2, n0, nc, kp, sd⟩ := hW
      -- deck[0] != []
      refine ⟨.ref d, rfl, d, _, 0, .ref a, rfl, rfl, SqL.of h1, at0, Nat.zero_le _, fun e ne => ?_⟩
      have sm : Same H2 (upd H2 e (.lst [])) := same_new ne
      have g1 := sm _ _ h1
      have g2 := sm _ _ h2
      have g3 := sm _ _ h3
      refine ⟨.list (big.map PyData.int), .list [], .lst (SqL.of g2) (dp_ints big), .lst (SqL.of upd_same) .nil, shaped_ints _, shaped_nil, _, rfl, ?_⟩
      rw [eqv_nil]
      have kp2 : Kp d a b H (upd H2 e (.lst [])) := kp.trans (Kp.of sm)
      have sd2 : ∀ y, b.l = some y → ∃ o, (upd H2 e (.lst [])) y = some o := fun y hy => let ⟨o, h⟩ := sd y hy; ⟨o, sm _ _ h⟩
      generalize upd H2 e (.lst []) = H3 at g1 g2 g3 kp2 sd2
      cases big with
      | cons x r =>
        refine iteT ?_
        have x0 : 0 ≤ x := p1 x List.mem_cons_self
        refine ⟨fun σ' H' => ∃ (y2 y3 y4 : Option V) (cells : List Int) (n : Int), σ' = [some (.ref d), some (.int m), y2, y3, y4] ∧
            H' d = some (.lst [.ref a, .ref b.b, .int n]) ∧ H' a = some (.lst (r.map V.int)) ∧ H' b.b = some (.lst (cells.map V.int)) ∧ r.length ≤ 63 ∧ (∀ z ∈ r, 0 ≤ z) ∧
            0 < cells.length ∧ cells.length ≤ 64 ∧ (∀ z ∈ cells, 0 ≤ z) ∧ 0 ≤ n ∧ n ≤ (c : Int) ∧ Kp d a b H H' ∧ (∀ y, b.l = some y → ∃ o, H' y = some o), fun σ' H' hN => ?_, ?_⟩
        · obtain ⟨y2, y3, y4, cells, n, e1, t⟩ := hN
          exact ⟨r.length, Nat.lt_succ_self _, y2, y3, y4, r, cells, n, e1, rfl, t⟩
        · -- rest = deck[0][0]
          refine ⟨.ref d, rfl, d, _, 0, .ref a, rfl, rfl, SqL.of g1, at0, a, _, 0, .int x, rfl, rfl, SqL.of g2, at0, ?_⟩
          -- if rest > 0
          refine ⟨.int x, rfl, x, 0, rfl, rfl, _, rfl, ite2 (fun hx => ?_) (fun hx => ?_)⟩
          · have hx : 0 < x := of_decide_eq_true hx
            refine ⟨.int x, rfl, .int m, rfl, x, m, rfl, rfl, small100 m0 m1, .ref d, rfl, d, _, 0, .ref a, rfl, rfl, SqL.of g1, at0, a, _, 0, 0, rfl, rfl, g2, ix_first, ?_⟩
            refine ⟨.int x, rfl, .int m, rfl, x, m, rfl, rfl, m0, ?_⟩
            refine q _ _ ⟨⟨x / m :: r, cells, n, ?_, ?_, ?_, l1, ?_, l0, l2, p2, n0, by omega⟩, nab, upd_sd sd2⟩ ⟨fun y o hy hn => ?_⟩ (Int.emod_nonneg _ (by omega)) (Int.emod_lt_of_pos _ m0)
            · rw [upd_ne nda]; exact g1
            · rw [upd_same]; rfl
            · rw [upd_ne nab.symm]; exact g3
            · intro z hz
              rcases List.mem_cons.mp hz with e1 | e1
              · rw [e1]; exact Int.ediv_nonneg x0 (by omega)
              · exact p1 z (List.mem_cons_of_mem _ e1)
            · rw [upd_ne fun z => hn (.inr (.inl z))]
              exact kp2.run y o hy hn
          · -- deck[0].pop(0)
            refine ⟨.ref d, rfl, d, _, 0, .ref a, rfl, rfl, SqL.of g1, at0, .inl ⟨rfl, _, SqL.of g2⟩, a, _, 0, 0, .int x, rfl, rfl, g2, by decide, by decide, ?_, rfl, ?_⟩
            · have e1 : (0 : Int) < (((x :: r).map V.int).length : Int) := by
                rw [List.length_map, List.length_cons]
                omega
              simp [seqIndex?]
            · refine ⟨some (.int x), y3, y4, cells, n, rfl, ?_, ?_, ?_, by rw [List.length_cons] at l1; omega, fun z hz => p1 z (List.mem_cons_of_mem _ hz), l0, l2, p2, n0, nc, ⟨fun y o hy hn => ?_⟩, upd_sd sd2⟩
              · rw [upd_ne nda]; exact g1
              · rw [upd_same]; rfl
              · rw [upd_ne nab.symm]; exact g3
              · rw [upd_ne fun z => hn (.inr (.inl z))]
                exact kp2.run y o hy hn
      | nil =>
        refine iteF ?_
        -- deck[2] = deck[2] + 1
        refine ⟨.ref d, rfl, d, _, 2, .int n, rfl, rfl, SqL.of g1, at2, n, 1, rfl, rfl, .ref d, rfl, d, _, 2, 2, rfl, rfl, g1, rfl, ?_⟩
        have f1 : upd H3 d (.lst ([.ref a, .ref b.b, .int n].set 2 (.int (n + 1)))) d = some (.lst [.ref a, .ref b.b, .int (n + 1)]) := upd_same
        have f2 : upd H3 d (.lst ([.ref a, .ref b.b, .int n].set 2 (.int (n + 1)))) a = some (.lst []) := by
          rw [upd_ne nda.symm]; exact g2
        have f3 : upd H3 d (.lst ([.ref a, .ref b.b, .int n].set 2 (.int (n + 1)))) b.b = some (.lst (cells.map V.int)) := by
          rw [upd_ne ndb.symm]; exact g3
        have kp3 : Kp d a b H (upd H3 d (.lst ([.ref a, .ref b.b, .int n].set 2 (.int (n + 1))))) := ⟨fun y o hy hn => by
          rw [upd_ne fun z => hn (.inl z)]
          exact kp2.run y o hy hn⟩
        have sd3 : ∀ y, b.l = some y → ∃ o, (upd H3 d (.lst ([.ref a, .ref b.b, .int n].set 2 (.int (n + 1))))) y = some o := upd_sd sd2
        generalize upd H3 d (.lst ([.ref a, .ref b.b, .int n].set 2 (.int (n + 1)))) = H4 at f1 f2 f3 kp3 sd3
        have dk : Deck d a b H4 (c + 1) := ⟨⟨[], cells, n + 1, f1, f2, f3, Nat.zero_le _, by simp, l0, l2, p2, by omega, by omega⟩, nab, sd3⟩
        -- the cell
        have hl : ((cells.map V.int).length : Int) = (cells.length : Int) := by rw [List.length_map]
        have r0 : 0 ≤ (n + 1) % (cells.length : Int) := Int.emod_nonneg _ (by omega)
        have r1 : (n + 1) % (cells.length : Int) < (cells.length : Int) := Int.emod_lt_of_pos _ (by omega)
        obtain ⟨j, ej⟩ : ∃ j : Nat, (n + 1) % (cells.length : Int) = (j : Int) := ⟨_, (Int.toNat_of_nonneg r0).symm⟩
        have hj : j < cells.length := by omega
        have gj : (cells.map V.int)[j]? = some (.int cells[j]) := by
          rw [List.getElem?_map, List.getElem?_eq_getElem hj]
          rfl
        refine ⟨.ref d, rfl, d, _, 1, .ref b.b, rfl, rfl, SqL.of f1, at1, .ref d, rfl, d, _, 2, .int (n + 1), rfl, rfl, SqL.of f1, at2, .ref d, rfl, d, _, 1, .ref b.b, rfl, rfl, SqL.of f1, at1,
          b.b, _, rfl, .inl (SqL.of f3), n + 1, _, rfl, rfl, ?_, b.b, _, _, .int cells[j], rfl, rfl, SqL.of f3, ?_, cells[j], 2147483647, rfl, rfl, (by show (0 : Int) < 2147483647; decide), ?_⟩
        · show (0 : Int) < ((cells.map V.int).length : Int)
          rw [hl]; omega
        · rw [hl, ej]
          exact atI_nat gj
        have c0 : 0 ≤ cells[j] % 2147483647 := Int.emod_nonneg _ (by decide)
        have c1 : cells[j] % 2147483647 < 2147483647 := Int.emod_lt_of_pos _ (by decide)
        obtain ⟨cell, ec⟩ : ∃ z, z = cells[j] % 2147483647 := ⟨_, rfl⟩
        rw [← ec] at c0 c1
        simp only [← ec]
        -- mixed
        refine ⟨.int cell, rfl, .ref d, rfl, d, _, 2, .int (n + 1), rfl, rfl, SqL.of f1, at2, 69621, n + 1, rfl, rfl, .inl ⟨by decide, by decide⟩, 48271, _, rfl, rfl, cell, _, rfl, rfl, .inl ⟨by omega, by omega⟩,
          .ref d, rfl, d, _, 2, .int (n + 1), rfl, rfl, SqL.of f1, at2, 40692, n + 1, rfl, rfl, .inl ⟨by decide, by decide⟩, .ref d, rfl, d, _, 2, .int (n + 1), rfl, rfl, SqL.of f1, at2,
          _, n + 1, rfl, rfl, .inr ⟨by omega, by omega⟩, _, _, rfl, rfl, _, 11, rfl, rfl, ?_⟩
        refine ⟨_, rfl, _, 2147483629, rfl, rfl, (by show (0 : Int) < 2147483629; decide), ?_⟩
        have b0 : 0 ≤ (cell * (48271 + 69621 * (n + 1)) + 40692 * (n + 1) * (n + 1) + 11) % 2147483629 := Int.emod_nonneg _ (by decide)
        have b1 : (cell * (48271 + 69621 * (n + 1)) + 40692 * (n + 1) * (n + 1) + 11) % 2147483629 < 2147483629 := Int.emod_lt_of_pos _ (by decide)
        obtain ⟨mixed, em⟩ : ∃ z, z = (cell * (48271 + 69621 * (n + 1)) + 40692 * (n + 1) * (n + 1) + 11) % 2147483629 := ⟨_, rfl⟩
        rw [← em] at b0 b1
        simp only [← em]
        refine ⟨.int mixed, rfl, .int mixed, rfl, mixed, mixed, rfl, rfl, .inl ⟨by omega, by omega⟩, _, 2147483587, rfl, rfl, (by show (0 : Int) < 2147483587; decide), _, 16, rfl, rfl, wide_div (b := 5) (by decide) (by decide) (by decide) (by decide),
          .int m, rfl, _, m, rfl, rfl, m0, ?_⟩
        exact q _ _ dk kp3 (Int.emod_nonneg _ (by omega)) (Int.emod_lt_of_pos _ m0)
def spDeck (K : PySem.W.Frag) : Sp := fun vs H Q _ => ∃ (e : Addr) (ns : List Int), vs = [.ref e] ∧ SqL K H e (ns.map V.int) ∧ ns.length ≤ 63 ∧
  ∀ H' d a b, Same H H' → Deck d a b H' 0 → b.l = none → Q (.ref d) H'
def absI (z : Int) : Int := if z < 0 then -z else z
theorem absI_nn (z : Int) : 0 ≤ absI z := by
  unfold absI
  split <;> omega
theorem ok_deck {f : Addr} {fd : FuncData} {k : Nat} (F : Fun K "_law_deck" "_law_deck" sDeck f fd) (m_len : mg "len" = none) (m_abs : mg "abs" = none) :
    FnOk P w K mg base CX0 (k + 1) f fd ["_law_script"] (spDeck K) := by
  refine F.ok cDeck (fun vs H Q E h => ?_) (fun cdv A outer s H vs Q E hr h => ?_)
  · obtain ⟨e, ns, rfl, _⟩ := h
    rfl
  · obtain ⟨e, ns, rfl, hS, hl, q⟩ := h
    refine ⟨_, (pss_cons (ps_setLc (i := 1) (own := [("_law_cell", 2)]) (g := gName 2) (tt := tYes) rfl cDeck.nd rfl rfl (sw_true rfl rfl rfl (by decide +kernel)) (pi_list (pv 0)) (blkOk_by (N := nDeck) (sc := defScope sDeck) (by decide +kernel)) (fun _ _ _ _ _ => (pg_name (i := 2) cDeck.nd rfl (.inl rfl))) (fun _ _ _ _ _ => pts_nil) (fun _ _ _ _ _ => (pe_callB call_abs (by rfl) m_abs PyProof.Rows.boot_abs (pa_cons (pv 2) pa_nil))))
        (pss_one (ps_ret (pe_lst (pa_cons (pe_lc (own := [("_law_cell", 2)]) (g := gName 2)  rfl cDeck.nd (pi_list (pv 1)) (blkOk_by (N := nDeck) (sc := defScope sDeck) (by decide +kernel)) (fun _ _ _ _ _ => (pg_name (i := 2) cDeck.nd rfl (.inl rfl))) (fun _ _ _ _ _ => (pts_one (pt_cmpR op_ge (pv 2) (pe_op op_pow pe_int pe_int) (nomark _)))) (fun _ _ _ _ _ => (pv 2))) (pa_cons (pe_op op_cat (pv 1) (pe_lst (pa_cons (pe_op op_add (pe_callB call_len_seq (by rfl) m_len PySem.boot_len (pa_cons (pv 1) pa_nil)) pe_int) pa_nil))) (pa_cons pe_int pa_nil))))))), ?_⟩
    refine ⟨.ref e, rfl, e, rfl, ⟨_, hS⟩, fun D nD => lc_list (xs := ns.map V.int) (fun i H1 => Same H H1 ∧ H1 D = some (.lst (((ns.take i).map absI).map V.int)))
      ⟨same_new nD, upd_same⟩ (fun i H1 _ p => p.1.seq hS) (fun i x H1 hx p => ?_) (fun H1 p => ?_)⟩
    · obtain ⟨sm, hD⟩ := p
      rw [List.getElem?_map] at hx
      cases hi : ns[i]? with
      | none => rw [hi] at hx; cases hx
      | some z =>
        rw [hi] at hx
        have ex : V.int z = x := Option.some.inj hx
        subst ex
        refine ⟨rfl, .int z, rfl, z, rfl, _, hD, ?_, ?_, ?_⟩
        · rw [List.length_map, List.length_map, List.length_take]
          exact Nat.lt_of_le_of_lt (Nat.min_le_right _ _) (small1000 (by omega))
        · intro y o hy
          rw [upd_ne (ne_of_none hy nD)]
          exact sm y o hy
        · rw [upd_same, List.take_add_one, hi, List.map_append, List.map_append]
          rfl
    · obtain ⟨sm, hD⟩ := p
      rw [show List.take (ns.map V.int).length ns = ns by rw [List.length_map, List.take_length]] at hD
      -- the big ones
      refine ⟨.ref D, rfl, D, rfl, ⟨_, SqL.of hD⟩, fun B nB => lc_list (xs := (ns.map absI).map V.int) (fun i H2 => Same H1 H2 ∧ ∃ big : List Int, H2 B = some (.lst (big.map V.int)) ∧ big.length ≤ i ∧ ∀ z ∈ big, 0 ≤ z)
        ⟨same_new nB, [], upd_same, Nat.zero_le _, by simp⟩ (fun i H2 _ p => SqL.of (p.1 _ _ hD)) (fun i x H2 hx p => ?_) (fun H2 p => ?_)⟩
      · obtain ⟨sm2, big, hB, lb, pb⟩ := p
        rw [List.getElem?_map, List.getElem?_map] at hx
        cases hi : ns[i]? with
        | none => rw [hi] at hx; cases hx
        | some z =>
          rw [hi] at hx
          have ex : V.int (absI z) = x := Option.some.inj hx
          subst ex
          have hli : i < ns.length := (List.getElem?_eq_some_iff.mp hi).1
          refine ⟨rfl, .int (absI z), rfl, 10, 18, rfl, rfl, ⟨by decide, by decide, by decide⟩, absI z, _, rfl, rfl, _, rfl, ite2 (fun _ => ?_) (fun _ => ?_)⟩
          · refine ⟨.int (absI z), rfl, _, hB, ?_, ?_, big ++ [absI z], ?_, ?_, ?_⟩
            · rw [List.length_map]
              exact small1000 (by omega)
            · intro y o hy
              rw [upd_ne (ne_of_none hy nB)]
              exact sm2 y o hy
            · rw [upd_same, List.map_append]
              rfl
            · rw [List.length_append, List.length_singleton]
              omega
            · intro y hy
              rcases List.mem_append.mp hy with r | r
              · exact pb y r
              · rw [List.mem_singleton.mp r]
                exact absI_nn z
          · exact ⟨sm2, big, hB, by omega, pb⟩
      · obtain ⟨sm2, big, hB, lb, pb⟩ := p
        have hD2 := sm2 _ _ hD
        have nBD : B ≠ D := (ne_of_none hD nB).symm
        -- cells + [len(cells) + 3]
        refine ⟨.ref D, rfl, .ref D, rfl, D, _, rfl, .inl (SqL.of hD2), _, 3, rfl, rfl, (by show 1 ≤ sizeLine; decide), fun L nL => ?_⟩
        have sm3 : Same H2 (upd H2 L (.lst [.int (((ns.map absI).map V.int).length + 3)])) := same_new nL
        have nLB : B ≠ L := ne_of_none hB nL
        refine ⟨D, L, _, _, rfl, rfl, sm3 _ _ hD2, upd_same, ?_, fun C nC => ?_⟩
        · rw [List.length_map, List.length_map]
          exact Nat.le_of_lt (small1000 (by show ns.length + 1 ≤ 1000; omega))
        · generalize upd H2 L (.lst [.int (((ns.map absI).map V.int).length + 3)]) = H3 at sm3 nC
          have sm4 := same_new (o := .lst ((ns.map absI).map V.int ++ [.int (((ns.map absI).map V.int).length + 3)])) nC
          have hB3 := sm3 _ _ hB
          have nBC : B ≠ C := ne_of_none hB3 nC
          refine ⟨(by show 3 ≤ sizeLine; decide), fun d nd => ?_⟩
          have sm5 := same_new (o := .lst [.ref B, .ref C, .int 0]) nd
          refine q _ d B ⟨C, none⟩ (sm.trans (sm2.trans (sm3.trans (sm4.trans sm5)))) ⟨⟨big, (ns.map absI) ++ [(ns.length : Int) + 3], 0, upd_same, sm5 _ _ (sm4 _ _ hB3), ?_, ?_, pb, ?_, ?_, ?_, by decide, by decide⟩, nBC, fun y hy => nomatch hy⟩ rfl
          · rw [sm5 C _ upd_same, List.map_append, List.length_map, List.length_map]
            rfl
          · rw [List.length_map, List.length_map] at lb
            omega
          · rw [List.length_append, List.length_singleton]
            omega
          · rw [List.length_append, List.length_singleton, List.length_map]
            omega
          · intro z hz
            rcases List.mem_append.mp hz with r | r
            · obtain ⟨y, _, rfl⟩ := List.mem_map.mp r
              exact absI_nn y
            · rw [List.mem_singleton.mp r]
              omega
def spOne : Sp := fun vs H Q _ => ∃ (d a : Addr) (b : Sd) (p : Addr) (xs : List V) (c : Nat), vs = [.ref d, .ref p] ∧ Deck d a b H c ∧ H p = some (.lst xs) ∧ ¬ Own d a b p ∧ xs ≠ [] ∧ xs.length ≤ 1000 ∧ c < 2 ^ 30 ∧
  ∀ H' x, Deck d a b H' (c + 1) → Kp d a b H H' → x ∈ xs → Q x H'
theorem ok_one {f : Addr} {fd : FuncData} {k j : Nat} (F : Fun K "_law_one" "_law_one" sOne f fd) (m_len : mg "len" = none)
    (Cn : Callee P w K mg base j "_law_next" ["_law_deck_here", "_law_many"] spNext) (hj : j ≤ k) :
    FnOk P w K mg base CX0 (k + 1) f fd ["_law_deck_here", "_law_some"] spOne := by
  refine F.ok cOne (fun vs H Q E h => ?_) (fun cdv A outer s H vs Q E hr h => ?_)
  · obtain ⟨d, a, b, p, xs, c, rfl, _⟩ := h
    rfl
  · obtain ⟨d, a, b, p, xs, c, rfl, D, hp, np, x0, xl, hc, q⟩ := h
    have lp : 0 < xs.length := List.length_pos_iff.mpr x0
    have hr := hr.mono hj
    refine ⟨_, (pss_one (ps_ret (pe_ix ix_list (pv 1) (pe_u Cn hr (by rfl) (pa_cons (pv 0) (pa_cons (pe_callB call_len_seq (by rfl) m_len PySem.boot_len (pa_cons (pv 1) pa_nil)) pa_nil))) (fun _ _ => rfl)))), ?_⟩
    refine ⟨.ref p, rfl, .ref d, rfl, .ref p, rfl, p, xs, rfl, .inl (SqL.of hp), d, a, b, _, c, rfl, D, ?_, ?_, hc, fun H' r D' kp r0 r1 => ?_⟩
    · show (0 : Int) < (xs.length : Int)
      omega
    · show (xs.length : Int) < 2 ^ 100
      exact Int.lt_of_le_of_lt (show (xs.length : Int) ≤ 1000 by omega) (by decide)
    · obtain ⟨i, ei⟩ : ∃ i : Nat, r = (i : Int) := ⟨_, (Int.toNat_of_nonneg r0).symm⟩
      have hi : i < xs.length := by omega
      exact ⟨p, xs, r, xs[i], rfl, rfl, SqL.of (kp _ _ hp np), by rw [ei]; exact atI_nat (List.getElem?_eq_getElem hi), q H' _ D' kp (List.getElem_mem hi)⟩
end

end Fr

set_option Elab.async false
set_option linter.all false
set_option maxRecDepth 100000
namespace Fr
open PySem PySem.Spec PyProof.Rows L2

theorem iteB {c : Bool} {A B : Prop} (h1 : c = true → A) (h2 : c = false → B) : if c = true then A else B := by
  cases c with
  | true => exact iteT (h1 rfl)
  | false => exact iteF (h2 rfl)
theorem iteNB {c : Bool} {A B : Prop} (h1 : c = false → A) (h2 : c = true → B) : if (!c) = true then A else B := by
  cases c with
  | true => exact iteF (h2 rfl)
  | false => exact iteT (h1 rfl)
/-- a house at h, its sizes at z -/
structure Hs (H : Hp) (h z : Addr) (sizes : List Int) (kinds : Int) : Prop where
  h : H h = some (.tup [.ref z, .int kinds])
  z : H z = some (.tup (sizes.map V.int))
theorem Hs.same {H H' : Hp} {h z : Addr} {sizes : List Int} {kinds : Int} (x : Hs H h z sizes kinds) (s : Same H H') : Hs H' h z sizes kinds := ⟨s _ _ x.h, s _ _ x.z⟩
def ieq : PyData → PyData → Bool
  | .int i, .int j => decide (i = j)
  | _, _ => false
def deedB (kn rm : Int) : PyData → Bool
  | .tuple [k, h, t] => inR 0 (kn - 1) k && (inR 0 (rm - 1) h && (inR 0 (rm - 1) t && !ieq h t))
  | _ => false
theorem of_inR {d a : Addr} {b : Sd} {H : Hp} {v : V} {x : PyData} {lo hi : Int} (h : Dt d a b H v x) (w : inR lo hi x = true) : ∃ i, v = .int i ∧ x = .int i ∧ lo ≤ i ∧ i ≤ hi := by
  cases h with
  | int i =>
    simp only [inR, Bool.and_eq_true, decide_eq_true_eq] at w
    exact ⟨i, rfl, rfl, w.1, w.2⟩
  | _ => cases w
def spWhole : Sp := fun vs H Q _ => ∃ (d a : Addr) (b : Sd) (v : V) (x : PyData), vs = [v] ∧ Dt d a b H v x ∧ Q (.bl (isW x)) H
def spFrom : Sp := fun vs H Q _ => ∃ (d a : Addr) (b : Sd) (v : V) (x : PyData) (lo hi : Int), vs = [v, .int lo, .int hi] ∧ Dt d a b H v x ∧ Q (.bl (inR lo hi x)) H
def spKind : Sp := fun vs H Q _ => ∃ (d a : Addr) (b : Sd) (h z : Addr) (sizes : List Int) (kinds : Int) (v : V) (x : PyData), vs = [.ref h, v] ∧ Hs H h z sizes kinds ∧ Dt d a b H v x ∧ Q (.bl (inR 0 (kinds - 1) x)) H
def spRoom : Sp := fun vs H Q _ => ∃ (d a : Addr) (b : Sd) (h z : Addr) (sizes : List Int) (kinds : Int) (v : V) (x : PyData), vs = [.ref h, v] ∧ Hs H h z sizes kinds ∧ Dt d a b H v x ∧ Q (.bl (inR 0 ((sizes.length : Int) - 1) x)) H
def spIsDeed : Sp := fun vs H Q _ => ∃ (d a : Addr) (b : Sd) (h z : Addr) (sizes : List Int) (kinds : Int) (v : V) (x : PyData), vs = [.ref h, v] ∧ Hs H h z sizes kinds ∧ Dt d a b H v x ∧
  ∀ H', Same H H' → Q (.bl (deedB kinds (sizes.length : Int) x)) H'
section
variable {P : Program} {w : World} {K : PySem.W.Frag} {mg : Str → Option Value} {base : Heap}
abbrev sWhole : Stmt := topS 1
abbrev nWhole : List Str := ["thing"]
theorem cWhole : FnScope nWhole ["thing"] (defScope sWhole) :=
  ⟨rfl, rfl, rfl, by decide +kernel, rfl, by decide +kernel, by decide +kernel⟩

theorem ok_whole {f : Addr} {fd : FuncData} {k : Nat} (F : Fun K "is_whole" "is_whole" sWhole f fd) (m_isinstance : mg "isinstance" = none) (m_int : mg "int" = none) (m_bool : mg "bool" = none) :
    FnOk P w K mg base CX0 (k + 1) f fd ["thing"] spWhole := by
  refine F.ok cWhole (fun vs H Q E h => ?_) (fun cdv A outer s H vs Q E hr h => ?_)
  · obtain ⟨d, a, b, v, x, rfl, _⟩ := h
    rfl
  · obtain ⟨d, a, b, v, x, rfl, ht, q⟩ := h
    refine ⟨_, (pss_one (ps_ret (pe_and (pe_callB call_isi (by rfl) m_isinstance PyProof.Rows.boot_isinstance (pa_cons (pv 0) (pa_cons (pe_bltn (v := .ty "int") (by rfl) m_int PyProof.Rows.boot_int rfl) pa_nil))) (pe_one (pe_not (pe_callB call_isi (by rfl) m_isinstance PyProof.Rows.boot_isinstance (pa_cons (pv 0) (pa_cons (pe_bltn (v := .ty "bool") (by rfl) m_bool PyProof.Rows.boot_bool rfl) pa_nil)))))))), ?_⟩
    refine ⟨v, rfl, v, .ty "int", _, _, isI x, rfl, .ty _, ht.ty, kit_ty (kit_I x), _, rfl, iteB (fun e => ?_) (fun e => ?_)⟩
    · refine ⟨v, rfl, v, .ty "bool", _, _, isB x, rfl, .ty _, ht.ty, kit_ty (kit_B x), _, rfl, ?_⟩
      rw [isW_eq, e] at q
      exact q
    · rw [isW_eq, e] at q
      exact q
abbrev sFrom : Stmt := topS 2
abbrev nFrom : List Str := ["thing", "low", "high"]
theorem cFrom : FnScope nFrom ["thing", "low", "high"] (defScope sFrom) :=
  ⟨rfl, rfl, rfl, by decide +kernel, rfl, by decide +kernel, by decide +kernel⟩

theorem ok_from {f : Addr} {fd : FuncData} {k j : Nat} (F : Fun K "is_from" "is_from" sFrom f fd) (Cw : Callee P w K mg base j "is_whole" ["thing"] spWhole) (hj : j ≤ k) :
    FnOk P w K mg base CX0 (k + 1) f fd ["thing", "low", "high"] spFrom := by
  refine F.ok cFrom (fun vs H Q E h => ?_) (fun cdv A outer s H vs Q E hr h => ?_)
  · obtain ⟨d, a, b, v, x, lo, hi, rfl, _⟩ := h
    rfl
  · obtain ⟨d, a, b, v, x, lo, hi, rfl, ht, q⟩ := h
    have hr := hr.mono hj
    refine ⟨_, (pss_one (ps_ret (pe_and (pe_u Cw hr (by rfl) (pa_cons (pv 0) pa_nil)) (pe_one (pe_chain op_le op_le (pv 1) (pv 0) (pv 2)))))), ?_⟩
    refine ⟨v, rfl, d, a, b, v, x, rfl, ht, _, rfl, iteB (fun e => ?_) (fun e => ?_)⟩
    · obtain ⟨i, rfl, rfl⟩ := of_isW ht e
      refine ⟨.int lo, rfl, .int i, rfl, lo, i, rfl, rfl, _, rfl, ite2 (fun e1 => ?_) (fun e1 => ?_)⟩
      · have e1 : lo ≤ i := of_decide_eq_true e1
        refine ⟨.int hi, rfl, i, hi, rfl, rfl, ?_⟩
        simp only [inR, decide_eq_true e1, Bool.true_and] at q
        exact q
      · have e1 : ¬ lo ≤ i := fun z => e1 (decide_eq_true z)
        simp only [inR, decide_eq_false e1, Bool.false_and] at q
        exact q
    · rw [inR_no e] at q
      exact q
abbrev sKind : Stmt := topS 4
abbrev nKind : List Str := ["house", "thing"]
theorem cKind : FnScope nKind ["house", "thing"] (defScope sKind) :=
  ⟨rfl, rfl, rfl, by decide +kernel, rfl, by decide +kernel, by decide +kernel⟩

theorem ok_kind {f : Addr} {fd : FuncData} {k j : Nat} (F : Fun K "is_kind" "is_kind" sKind f fd) (Cf : Callee P w K mg base j "is_from" ["thing", "low", "high"] spFrom) (hj : j ≤ k) :
    FnOk P w K mg base CX0 (k + 1) f fd ["house", "thing"] spKind := by
  refine F.ok cKind (fun vs H Q E h => ?_) (fun cdv A outer s H vs Q E hr h => ?_)
  · obtain ⟨d, a, b, h, z, sizes, kinds, v, x, rfl, _⟩ := h
    rfl
  · obtain ⟨d, a, b, h, z, sizes, kinds, v, x, rfl, hs, ht, q⟩ := h
    have hr := hr.mono hj
    refine ⟨_, (pss_one (ps_ret (pe_u Cf hr (by rfl) (pa_cons (pv 1) (pa_cons pe_int (pa_cons (pe_op op_sub (pe_ix ix_tup (pv 0) pe_int (fun _ _ => rfl)) pe_int) pa_nil)))))), ?_⟩
    exact ⟨v, rfl, .ref h, rfl, h, _, 1, .int kinds, rfl, rfl, SqT.of hs.h, at1, kinds, 1, rfl, rfl, d, a, b, v, x, 0, kinds - 1, rfl, ht, q⟩
abbrev sRoom : Stmt := topS 5
abbrev nRoom : List Str := ["house", "thing"]
theorem cRoom : FnScope nRoom ["house", "thing"] (defScope sRoom) :=
  ⟨rfl, rfl, rfl, by decide +kernel, rfl, by decide +kernel, by decide +kernel⟩

theorem ok_room {f : Addr} {fd : FuncData} {k j : Nat} (F : Fun K "is_room" "is_room" sRoom f fd) (m_len : mg "len" = none) (Cf : Callee P w K mg base j "is_from" ["thing", "low", "high"] spFrom) (hj : j ≤ k) :
    FnOk P w K mg base CX0 (k + 1) f fd ["house", "thing"] spRoom := by
  refine F.ok cRoom (fun vs H Q E h => ?_) (fun cdv A outer s H vs Q E hr h => ?_)
  · obtain ⟨d, a, b, h, z, sizes, kinds, v, x, rfl, _⟩ := h
    rfl
  · obtain ⟨d, a, b, h, z, sizes, kinds, v, x, rfl, hs, ht, q⟩ := h
    have hr := hr.mono hj
    refine ⟨_, (pss_one (ps_ret (pe_u Cf hr (by rfl) (pa_cons (pv 1) (pa_cons pe_int (pa_cons (pe_op op_sub (pe_callB call_len_seq (by rfl) m_len PySem.boot_len (pa_cons (pe_ix ix_tup (pv 0) pe_int (fun _ _ => rfl)) pa_nil)) pe_int) pa_nil)))))), ?_⟩
    refine ⟨v, rfl, .ref h, rfl, h, _, 0, .ref z, rfl, rfl, SqT.of hs.h, at0, z, _, rfl, .inr (SqT.of hs.z), _, 1, rfl, rfl, d, a, b, v, x, 0, (sizes.length : Int) - 1, ?_, ht, q⟩
    rw [List.length_map]
    rfl
abbrev sIsDeed : Stmt := topS 6
abbrev nIsDeed : List Str := ["house", "thing", "kind", "here", "there"]
theorem cIsDeed : FnScope nIsDeed ["house", "thing"] (defScope sIsDeed) :=
  ⟨rfl, rfl, rfl, by decide +kernel, rfl, by decide +kernel, by decide +kernel⟩

theorem ok_isdeed {f : Addr} {fd : FuncData} {k j : Nat} (F : Fun K "is_deed" "is_deed" sIsDeed f fd) (m_len : mg "len" = none) (m_isinstance : mg "isinstance" = none) (m_tuple : mg "tuple" = none)
    (Ck : Callee P w K mg base j "is_kind" ["house", "thing"] spKind) (Cr : Callee P w K mg base j "is_room" ["house", "thing"] spRoom) (hj : j ≤ k) :
    FnOk P w K mg base CX0 (k + 1) f fd ["house", "thing"] spIsDeed := by
  refine F.ok cIsDeed (fun vs H Q E h => ?_) (fun cdv A outer s H vs Q E hr h => ?_)
  · obtain ⟨d, a, b, h, z, sizes, kinds, v, x, rfl, _⟩ := h
    rfl
  · obtain ⟨d, a, b, h, z, sizes, kinds, v, x, rfl, hs, ht, q⟩ := h
    have hr := hr.mono hj
    have q := q H (Same.refl H)
    refine ⟨_, (pss_cons (ps_if (PW.pt (pw_or (pt_not (pt_val (pe_callB call_isi (by rfl) m_isinstance PyProof.Rows.boot_isinstance (pa_cons (pv 1) (pa_cons (pe_bltn (v := .ty "tuple") (by rfl) m_tuple PyProof.Rows.boot_tuple rfl) pa_nil))))) (pw_or1 (pt_cmpR op_ne (pe_callB call_len_seq (by rfl) m_len PySem.boot_len (pa_cons (pv 1) pa_nil)) pe_int (nomark _))))) (pss_one (ps_ret pe_bl)) pss_nil)
        (pss_cons (ps_asg (pv 1) (pg_tup rfl (pgs_cons (pg_name (i := 2) cIsDeed.nd rfl (.inl rfl)) (pgs_cons (pg_name (i := 3) cIsDeed.nd rfl (.inl rfl)) (pgs_cons (pg_name (i := 4) cIsDeed.nd rfl (.inl rfl)) pgs_nil)))))
        (pss_cons (ps_if (PW.pt (pw_or (pt_not (pt_val (pe_u Ck hr (by rfl) (pa_cons (pv 0) (pa_cons (pv 2) pa_nil))))) (pw_or (pt_not (pt_val (pe_u Cr hr (by rfl) (pa_cons (pv 0) (pa_cons (pv 3) pa_nil))))) (pw_or1 (pt_not (pt_val (pe_u Cr hr (by rfl) (pa_cons (pv 0) (pa_cons (pv 4) pa_nil))))))))) (pss_one (ps_ret pe_bl)) pss_nil)
        (pss_one (ps_ret (pe_cmpR op_ne (pv 3) (pv 4) (nomark _))))))), ?_⟩
    have isi : TyX K H v (.type (tyN x)) := ht.ty
    refine ⟨v, rfl, v, .ty "tuple", _, _, isT x, rfl, .ty _, isi, kit_ty (kit_T x), _, rfl, iteNB (fun e => ?_) (fun e => ?_)⟩
    · refine iteT ?_
      have e0 : deedB kinds (sizes.length : Int) x = false := by
        cases x with
        | tuple _ => cases e
        | _ => rfl
      rw [e0] at q
      exact q
    · cases ht with
      | @tup p xs ds h1 h2 h3 =>
        have hl := h3.length
        refine ⟨.ref p, rfl, p, xs, rfl, .inr (SqT.of h1), rfl, _, rfl, ite2 (fun e2 => ?_) (fun e2 => ?_)⟩
        · have e0 : deedB kinds (sizes.length : Int) (.tuple ds) = false := by
            match ds, hl with
            | [], _ => rfl
            | [_], _ => rfl
            | [_, _], _ => rfl
            | [_, _, _], hl => exact absurd e2 (by rw [show xs.length = 3 from hl]; decide)
            | _ :: _ :: _ :: _ :: _, _ => rfl
          rw [e0] at q
          exact q
        · have l3 : xs.length = 3 := by
            by_cases z : (xs.length : Int) = 3
            · omega
            · exact absurd (show (!decide (V.int (xs.length : Int) = V.int 3)) = true by simp [z]) e2
          match xs, ds, h3, l3, h1 with
          | [v1, v2, v3], [x1, x2, x3], .cons t1 (.cons t2 (.cons t3 .nil)), _, h1 =>
            refine ⟨.ref p, rfl, p, [v1, v2, v3], rfl, SqT.of h1, rfl, v1, [v2, v3], rfl, v2, [v3], rfl, v3, [], rfl, rfl, ?_⟩
            have no : ∀ {c : Bool}, deedB kinds (sizes.length : Int) (.tuple [x1, x2, x3]) = c → Q (.bl c) H := fun e => by
              rw [e] at q
              exact q
            refine ⟨.ref h, rfl, v1, rfl, d, a, b, h, z, sizes, kinds, v1, x1, rfl, hs, t1, _, rfl, iteNB (fun e1 => ?_) (fun e1 => ?_)⟩
            · exact iteT (no (by simp [deedB, e1]))
            · refine ⟨.ref h, rfl, v2, rfl, d, a, b, h, z, sizes, kinds, v2, x2, rfl, hs, t2, _, rfl, iteNB (fun e4 => ?_) (fun e4 => ?_)⟩
              · exact iteT (no (by simp [deedB, e4]))
              · refine ⟨.ref h, rfl, v3, rfl, d, a, b, h, z, sizes, kinds, v3, x3, rfl, hs, t3, _, rfl, iteNB (fun e3 => ?_) (fun e3 => ?_)⟩
                · exact no (by simp [deedB, e3])
                · obtain ⟨i, rfl, rfl, _, _⟩ := of_inR t2 e4
                  obtain ⟨j, rfl, rfl, _, _⟩ := of_inR t3 e3
                  refine ⟨.int i, rfl, .int j, rfl, rfl, no ?_⟩
                  simp [deedB, e1, e4, e3, ieq]
      | _ => cases e
abbrev sLWhole : Stmt := topS 11
abbrev nLWhole : List Str := ["_law_thing"]
theorem cLWhole : FnScope nLWhole ["_law_thing"] (defScope sLWhole) :=
  ⟨rfl, rfl, rfl, by decide +kernel, rfl, by decide +kernel, by decide +kernel⟩

theorem ok_lwhole {f : Addr} {fd : FuncData} {k : Nat} (F : Fun K "_law_whole" "_law_whole" sLWhole f fd) (m_isinstance : mg "isinstance" = none) (m_int : mg "int" = none) (m_bool : mg "bool" = none) :
    FnOk P w K mg base CX0 (k + 1) f fd ["_law_thing"] spWhole := by
  refine F.ok cLWhole (fun vs H Q E h => ?_) (fun cdv A outer s H vs Q E hr h => ?_)
  · obtain ⟨d, a, b, v, x, rfl, _⟩ := h
    rfl
  · obtain ⟨d, a, b, v, x, rfl, ht, q⟩ := h
    refine ⟨_, (pss_one (ps_ret (pe_and (pe_callB call_isi (by rfl) m_isinstance PyProof.Rows.boot_isinstance (pa_cons (pv 0) (pa_cons (pe_bltn (v := .ty "int") (by rfl) m_int PyProof.Rows.boot_int rfl) pa_nil))) (pe_one (pe_not (pe_callB call_isi (by rfl) m_isinstance PyProof.Rows.boot_isinstance (pa_cons (pv 0) (pa_cons (pe_bltn (v := .ty "bool") (by rfl) m_bool PyProof.Rows.boot_bool rfl) pa_nil)))))))), ?_⟩
    refine ⟨v, rfl, v, .ty "int", _, _, isI x, rfl, .ty _, ht.ty, kit_ty (kit_I x), _, rfl, iteB (fun e => ?_) (fun e => ?_)⟩
    · refine ⟨v, rfl, v, .ty "bool", _, _, isB x, rfl, .ty _, ht.ty, kit_ty (kit_B x), _, rfl, ?_⟩
      rw [isW_eq, e] at q
      exact q
    · rw [isW_eq, e] at q
      exact q
end
end Fr

set_option Elab.async false
set_option linter.all false
set_option maxRecDepth 100000
namespace Fr
open PySem PySem.Spec PyProof.Rows L2

section
variable {P : Program} {w : World} {K : PySem.W.Frag} {mg : Str → Option Value} {base : Heap}
abbrev sHouse : Stmt := topS 12
abbrev nHouse : List Str := ["_law_deck_here", "_law_rooms", "_law_kinds", "_law_sizes", "_law_room"]
theorem cHouse : FnScope nHouse ["_law_deck_here", "_law_rooms", "_law_kinds"] (defScope sHouse) :=
  ⟨rfl, rfl, rfl, by decide +kernel, rfl, by decide +kernel, by decide +kernel⟩

def spHouse : Sp := fun vs H Q _ => ∃ (d a : Addr) (b : Sd) (rooms kinds : Int) (c : Nat), vs = [.ref d, .int rooms, .int kinds] ∧ Deck d a b H c ∧ 0 ≤ rooms ∧ rooms ≤ 9 ∧ c + 20 < 2 ^ 30 ∧
  ∀ H' h z sizes, Deck d a b H' (c + 20) → Kp d a b H H' → Hs H' h z sizes kinds → ¬ Own d a b h → ¬ Own d a b z → sizes.length = rooms.toNat → (∀ s ∈ sizes, 1 ≤ s ∧ s ≤ 10 ^ 12) → Q (.ref h) H'
theorem ok_house {f : Addr} {fd : FuncData} {k j : Nat} (F : Fun K "_law_house" "_law_house" sHouse f fd) (m_range : mg "range" = none) (m_tuple : mg "tuple" = none)
    (Cn : Callee P w K mg base j "_law_next" ["_law_deck_here", "_law_many"] spNext) (Co : Callee P w K mg base j "_law_one" ["_law_deck_here", "_law_some"] spOne) (hj : j ≤ k) :
    FnOk P w K mg base CX0 (k + 1) f fd ["_law_deck_here", "_law_rooms", "_law_kinds"] spHouse := by
  refine F.ok cHouse (fun vs H Q E h => ?_) (fun cdv A outer s H vs Q E hr h => ?_)
  · obtain ⟨d, a, b, rooms, kinds, c, rfl, _⟩ := h
    rfl
  · obtain ⟨d, a, b, rooms, kinds, c, rfl, D, r0, r9, hc, q⟩ := h
    have hr := hr.mono hj
    refine ⟨_, (pss_cons (ps_set (i := 3) cHouse.nd rfl (.inl rfl) (pe_lst pa_nil))
        (pss_cons (ps_for PassesOwn.never rfl (pi_range1 (by rfl) m_range (pa_cons (pv 1) pa_nil)) (pg_name (i := 4) cHouse.nd rfl (.inl rfl)) (pss_one (ps_expr (pe_bm PySem.F.plainAttrs_list PySem.F.slot_list_append PySem.F.type_list_append mt_append (pv 3) (pa_cons (pe_op op_add pe_int (pe_u Cn hr (by rfl) (pa_cons (pv 0) (pa_cons (pe_u Co hr (by rfl) (pa_cons (pv 0) (pa_cons (pe_lst (pa_cons pe_int (pa_cons pe_int (pa_cons pe_int (pa_cons (pe_op op_pow pe_int pe_int) pa_nil))))) pa_nil))) pa_nil)))) pa_nil)))))
        (pss_one (ps_ret (pe_tup (pa_cons (pe_callTy call_tuple_of (by rfl) m_tuple PyProof.Rows.boot_tuple (pa_cons (pv 3) pa_nil)) (pa_cons (pv 2) pa_nil))))))), ?_⟩
    refine ⟨Nat.zero_le _, fun p np => ?_⟩
    have op : ¬ Own d a b p := D.fresh np
    refine ⟨.int rooms, rfl, rooms, rfl, by omega, by omega, for_range (n := rooms.toNat) (fun i σ H1 => ∃ (y : Option V) (sizes : List Int), σ = [some (.ref d), some (.int rooms), some (.int kinds), some (.ref p), y] ∧
      Deck d a b H1 (c + 2 * i) ∧ Kp d a b H H1 ∧ H1 p = some (.lst (sizes.map V.int)) ∧ sizes.length = i ∧ ∀ s ∈ sizes, 1 ≤ s ∧ s ≤ 10 ^ 12)
      ⟨none, [], rfl, D.new np, Kp.new np, upd_same, rfl, by simp⟩ (fun i σ H1 hi hP => ?_) (fun σ H1 hP => ?_)⟩
    · obtain ⟨y, sizes, rfl, D1, kp1, hp, hl, hs⟩ := hP
      refine ⟨.ref p, rfl, .inl ⟨rfl, _, SqL.of hp⟩, .ref d, rfl, .ref d, rfl, 10, 12, rfl, rfl, ⟨by decide, by decide, by decide⟩, (by show 4 ≤ sizeLine; decide), fun l nl => ?_⟩
      refine ⟨d, a, b, l, _, c + 2 * i, rfl, D1.new nl, upd_same, D1.fresh nl, by simp, (by show 4 ≤ 1000; decide), by omega, fun H2 x D2 kp2 hx => ?_⟩
      have hm : ∃ m : Int, x = .int m ∧ 0 < m ∧ m ≤ 10 ^ 12 := by
        simp only [List.mem_cons, List.not_mem_nil, or_false] at hx
        rcases hx with e | e | e | e
        · exact ⟨1, e, by decide, by decide⟩
        · exact ⟨3, e, by decide, by decide⟩
        · exact ⟨9, e, by decide, by decide⟩
        · exact ⟨10 ^ 12, e, by decide, by decide⟩
      obtain ⟨m, rfl, m0, m1⟩ := hm
      refine ⟨d, a, b, m, _, rfl, D2, m0, Int.lt_of_le_of_lt m1 (by decide), by omega, fun H3 r D3 kp3 r0 r1 => ?_⟩
      have kp13 : Kp d a b H1 H3 := (Kp.new nl).trans (kp2.trans kp3)
      have hp3 := kp13 _ _ hp op
      refine ⟨1, r, rfl, rfl, p, _, _, rfl, rfl, hp3, ?_, some (.int (0 + i)), sizes ++ [1 + r], rfl, ?_, ?_, ?_, ?_, ?_⟩
      · rw [List.length_map]
        exact small1000 (by omega)
      · exact (D3.put (off op)).mono (by omega)
      · refine ⟨fun t o ht hn => ?_⟩
        rw [upd_ne (ne_of_none ht np)]
        exact kp13.run t o (kp1.run t o ht hn) hn
      · rw [upd_same, List.map_append]
        rfl
      · rw [List.length_append, List.length_singleton, hl]
      · intro t ht
        rcases List.mem_append.mp ht with e | e
        · exact hs t e
        · rw [List.mem_singleton.mp e]
          omega
    · obtain ⟨y, sizes, rfl, D1, kp1, hp, hl, hs⟩ := hP
      refine ⟨.ref p, rfl, p, _, rfl, .inl ⟨SqL.of hp, fun z nz => ⟨.int kinds, rfl, (by show 2 ≤ sizeLine; decide), fun h nh => ?_⟩⟩⟩
      have s1 := same_new (o := .tup (sizes.map V.int)) nz
      have s2 := same_new (o := .tup [.ref z, .int kinds]) nh
      have D2 := D1.new (o := .tup (sizes.map V.int)) nz
      exact q _ h z sizes ((D2.new nh).mono (by omega)) (kp1.trans ((Kp.of s1).trans (Kp.of s2))) ⟨upd_same, s2 _ _ upd_same⟩ (D2.fresh nh) (D1.fresh nz) hl hs
abbrev sOdd : Stmt := topS 13
abbrev nOdd : List Str := ["_law_deck_here", "_law_some"]
theorem cOdd : FnScope nOdd ["_law_deck_here"] (defScope sOdd) :=
  ⟨rfl, rfl, rfl, by decide +kernel, rfl, by decide +kernel, by decide +kernel⟩

def odds : List PyData := [.none, .bool true, .bool false, .int 0, .int 1, .int (-1), .int 2, .int 8, .int (10 ^ 12), .int (10 ^ 12 + 1), .int (10 ^ 30), .str "", .str "0", .tuple [], .tuple [.int 0], .tuple [.int 0, .int 1], .list [], .dict [], .list [.int 0]]
theorem gd_small {i : Int} (h : i.natAbs < 10 ^ 60) : Gd (.int i) 63 2 := (gd_int h).mono (by decide) (by decide)
theorem odds_gd : ∀ x ∈ odds, Gd x 200 2 := by
  intro x hx
  have i0 : Gd (.int 0) 61 0 := gd_int (by decide)
  have i1 : Gd (.int 1) 61 0 := gd_int (by decide)
  have g1 : GdAll [.int 0] (61 + 2 + 0) 0 := gdall_cons i0 gdall_nil (.inl (pl_int 0))
  have g2 : GdAll [.int 0, .int 1] (61 + 2 + (61 + 2 + 0)) 0 := gdall_cons i0 (gdall_cons i1 gdall_nil (.inl (pl_int 1))) (.inl (pl_int 0))
  simp only [odds, List.mem_cons, List.not_mem_nil, or_false] at hx
  rcases hx with e | e | e | e | e | e | e | e | e | e | e | e | e | e | e | e | e | e | e <;> rw [e]
  · exact gd_non.mono (by decide) (by decide)
  · exact (gd_bl true).mono (by decide) (by decide)
  · exact (gd_bl false).mono (by decide) (by decide)
  · exact (gd_small (by decide)).mono (by decide) (by decide)
  · exact (gd_small (by decide)).mono (by decide) (by decide)
  · exact (gd_small (by decide)).mono (by decide) (by decide)
  · exact (gd_small (by decide)).mono (by decide) (by decide)
  · exact (gd_small (by decide)).mono (by decide) (by decide)
  · exact (gd_small (by decide)).mono (by decide) (by decide)
  · exact (gd_small (by decide)).mono (by decide) (by decide)
  · exact (gd_small (by decide)).mono (by decide) (by decide)
  · exact (gd_str (n := 2) (by decide +kernel)).mono (by decide) (by decide)
  · exact (gd_str (n := 3) (by decide +kernel)).mono (by decide) (by decide)
  · exact (gd_tup gdall_nil).mono (by decide) (by decide)
  · exact (gd_tup g1).mono (by decide) (by decide)
  · exact (gd_tup g2).mono (by decide) (by decide)
  · exact (gd_lst gdall_nil (by simp [PyData.hasDictAll])).mono (by decide) (by decide)
  · exact gd_dct.mono (by decide) (by decide)
  · exact (gd_lst g1 (by simp [PyData.hasDictAll, PyData.hasDict])).mono (by decide) (by decide)
def spOdd : Sp := fun vs H Q _ => ∃ (d a : Addr) (b : Sd) (c : Nat), vs = [.ref d] ∧ Deck d a b H c ∧ c < 2 ^ 30 ∧
  ∀ H' v x, Deck d a b H' (c + 1) → Kp d a b H H' → Dt d a b H' v x → Gd x 200 2 → Q v H'
theorem ok_odd {f : Addr} {fd : FuncData} {k j : Nat} (F : Fun K "_law_odd" "_law_odd" sOdd f fd) (m_len : mg "len" = none)
    (Cn : Callee P w K mg base j "_law_next" ["_law_deck_here", "_law_many"] spNext) (hj : j ≤ k) :
    FnOk P w K mg base CX0 (k + 1) f fd ["_law_deck_here"] spOdd := by
  refine F.ok cOdd (fun vs H Q E h => ?_) (fun cdv A outer s H vs Q E hr h => ?_)
  · obtain ⟨d, a, b, c, rfl, _⟩ := h
    rfl
  · obtain ⟨d, a, b, c, rfl, D, hc, q⟩ := h
    have hr := hr.mono hj
    refine ⟨_, (pss_cons (ps_set (i := 1) cOdd.nd rfl (.inl rfl) (pe_lst (pa_cons pe_non (pa_cons pe_bl (pa_cons pe_bl (pa_cons pe_int (pa_cons pe_int (pa_cons (pe_un un_neg pe_int) (pa_cons pe_int (pa_cons pe_int (pa_cons (pe_op op_pow pe_int pe_int) (pa_cons (pe_op op_add (pe_op op_pow pe_int pe_int) pe_int) (pa_cons (pe_op op_pow pe_int pe_int) (pa_cons pe_str (pa_cons pe_str (pa_cons (pe_tup pa_nil) (pa_cons (pe_tup (pa_cons pe_int pa_nil)) (pa_cons (pe_tup (pa_cons pe_int (pa_cons pe_int pa_nil))) (pa_cons (pe_lst pa_nil) (pa_cons pe_dnewK (pa_cons (pe_lst (pa_cons pe_int pa_nil)) pa_nil)))))))))))))))))))))
        (pss_one (ps_ret (pe_ix ix_list (pv 1) (pe_u Cn hr (by rfl) (pa_cons (pv 0) (pa_cons (pe_callB call_len_seq (by rfl) m_len PySem.boot_len (pa_cons (pv 1) pa_nil)) pa_nil))) (fun _ _ => rfl))))), ?_⟩
    refine ⟨1, rfl, 10, 12, rfl, rfl, ⟨by decide, by decide, by decide⟩, 10, 12, rfl, rfl, ⟨by decide, by decide, by decide⟩, _, 1, rfl, rfl, 10, 30, rfl, rfl, ⟨by decide, by decide, by decide⟩, Nat.zero_le _, fun t0 n0 => ?_⟩
    have D0 := D.new (o := .tup []) n0
    have s0 := same_new (o := .tup []) n0
    have f0 : upd H t0 (.tup []) t0 = some (.tup []) := upd_same
    have o0 := D.fresh n0
    generalize upd H t0 (.tup []) = H0 at D0 s0 f0
    refine ⟨(by show 1 ≤ sizeLine; decide), fun t1 n1 => ?_⟩
    have D1 := D0.new (o := .tup [.int 0]) n1
    have s1 := same_new (o := .tup [.int 0]) n1
    have f1 : upd H0 t1 (.tup [.int 0]) t1 = some (.tup [.int 0]) := upd_same
    have o1 := D0.fresh n1
    generalize upd H0 t1 (.tup [.int 0]) = H1 at D1 s1 f1
    refine ⟨(by show 2 ≤ sizeLine; decide), fun t2 n2 => ?_⟩
    have D2 := D1.new (o := .tup [.int 0, .int 1]) n2
    have s2 := same_new (o := .tup [.int 0, .int 1]) n2
    have f2 : upd H1 t2 (.tup [.int 0, .int 1]) t2 = some (.tup [.int 0, .int 1]) := upd_same
    have o2 := D1.fresh n2
    generalize upd H1 t2 (.tup [.int 0, .int 1]) = H2 at D2 s2 f2
    refine ⟨Nat.zero_le _, fun t3 n3 => ?_⟩
    have D3 := D2.new (o := .lst []) n3
    have s3 := same_new (o := .lst []) n3
    have f3 : upd H2 t3 (.lst []) t3 = some (.lst []) := upd_same
    have o3 := D2.fresh n3
    generalize upd H2 t3 (.lst []) = H3 at D3 s3 f3
    refine fun t4 n4 => ?_
    have D4 := D3.new (o := .dK []) n4
    have s4 := same_new (o := .dK []) n4
    have f4 : upd H3 t4 (.dK []) t4 = some (.dK []) := upd_same
    have o4 := D3.fresh n4
    generalize upd H3 t4 (.dK []) = H4 at D4 s4 f4
    refine ⟨(by show 1 ≤ sizeLine; decide), fun t5 n5 => ?_⟩
    have D5 := D4.new (o := .lst [.int 0]) n5
    have s5 := same_new (o := .lst [.int 0]) n5
    have f5 : upd H4 t5 (.lst [.int 0]) t5 = some (.lst [.int 0]) := upd_same
    have o5 := D4.fresh n5
    generalize upd H4 t5 (.lst [.int 0]) = H5 at D5 s5 f5
    refine ⟨(by show 19 ≤ sizeLine; decide), fun L nL => ?_⟩
    have all : DtAll d a b H5 [.non, .bl true, .bl false, .int 0, .int 1, .int (-1), .int 2, .int 8, .int (10 ^ 12), .int (10 ^ 12 + 1), .int (10 ^ 30), .str "", .str "0", .ref t0, .ref t1, .ref t2, .ref t3, .ref t4, .ref t5] odds := by
      refine .cons .non (.cons (.bl _) (.cons (.bl _) (.cons (.int _) (.cons (.int _) (.cons (.int _) (.cons (.int _) (.cons (.int _) (.cons (.int _) (.cons (.int _) (.cons (.int _) (.cons (.str _) (.cons (.str _) ?_))))))))))))
      refine .cons (.tup (s5 _ _ (s4 _ _ (s3 _ _ (s2 _ _ (s1 _ _ f0))))) o0 .nil) (.cons (.tup (s5 _ _ (s4 _ _ (s3 _ _ (s2 _ _ f1)))) o1 (.cons (.int _) .nil)) (.cons (.tup (s5 _ _ (s4 _ _ (s3 _ _ f2))) o2 (.cons (.int _) (.cons (.int _) .nil))) ?_))
      exact .cons (.lst (s5 _ _ (s4 _ _ f3)) o3 .nil) (.cons (.dct (s5 _ _ f4) o4) (.cons (.lst f5 o5 (.cons (.int _) .nil)) .nil))
    have kp5 : Kp d a b H H5 := (Kp.of s0).trans ((Kp.of s1).trans ((Kp.of s2).trans ((Kp.of s3).trans ((Kp.of s4).trans (Kp.of s5)))))
    have oL := D5.fresh nL
    have D6 := D5.new (o := .lst [.non, .bl true, .bl false, .int 0, .int 1, .int (-1), .int 2, .int 8, .int (10 ^ 12), .int (10 ^ 12 + 1), .int (10 ^ 30), .str "", .str "0", .ref t0, .ref t1, .ref t2, .ref t3, .ref t4, .ref t5]) nL
    have s6 := same_new (o := .lst [.non, .bl true, .bl false, .int 0, .int 1, .int (-1), .int 2, .int 8, .int (10 ^ 12), .int (10 ^ 12 + 1), .int (10 ^ 30), .str "", .str "0", .ref t0, .ref t1, .ref t2, .ref t3, .ref t4, .ref t5]) nL
    refine ⟨.ref L, rfl, .ref d, rfl, .ref L, rfl, L, _, rfl, .inl (SqL.of upd_same), d, a, b, _, c, rfl, D6, ?_, ?_, hc, fun H' r D' kp r0 r1 => ?_⟩
    · show (0 : Int) < ((19 : Nat) : Int)
      decide
    · show ((19 : Nat) : Int) < 2 ^ 100
      decide
    · obtain ⟨i, ei⟩ : ∃ i : Nat, r = (i : Int) := ⟨_, (Int.toNat_of_nonneg r0).symm⟩
      have r2 : r < ((19 : Nat) : Int) := r1
      have hi : i < 19 := by omega
      have gi := List.getElem?_eq_getElem (l := [V.non, .bl true, .bl false, .int 0, .int 1, .int (-1), .int 2, .int 8, .int (10 ^ 12), .int (10 ^ 12 + 1), .int (10 ^ 30), .str "", .str "0", .ref t0, .ref t1, .ref t2, .ref t3, .ref t4, .ref t5]) (i := i) hi
      obtain ⟨x, hx, tx⟩ := all.get gi
      refine ⟨L, _, r, _, rfl, rfl, SqL.of (kp _ _ upd_same oL), by rw [ei]; exact atI_nat gi, ?_⟩
      exact q H' _ x D' (kp5.trans ((Kp.of s6).trans kp)) (Dt.keep ((Kp.of s6).trans kp) _ _ tx) (odds_gd x (List.mem_of_getElem? hx))
end
end Fr

set_option Elab.async false
set_option linter.all false
set_option maxRecDepth 100000
namespace Fr
open PySem PySem.Spec PyProof.Rows L2

section
variable {P : Program} {w : World} {K : PySem.W.Frag} {mg : Str → Option Value} {base : Heap}
abbrev sLIsDeed : Stmt := topS 15
abbrev nLIsDeed : List Str := ["_law_house_here", "_law_thing", "_law_kind", "_law_here", "_law_there", "_law_many", "_law_one_here"]
theorem cLIsDeed : FnScope nLIsDeed ["_law_house_here", "_law_thing"] (defScope sLIsDeed) :=
  ⟨rfl, rfl, rfl, by decide +kernel, rfl, by decide +kernel, by decide +kernel⟩

theorem take_all {xs : List PyData} {i : Nat} {x : PyData} {f : PyData → Bool} (h : xs[i]? = some x) : (xs.take (i + 1)).all f = ((xs.take i).all f && f x) := by
  rw [List.take_add_one, h, List.all_append]
  simp
theorem ok_lisdeed {f : Addr} {fd : FuncData} {k j : Nat} (F : Fun K "_law_is_deed" "_law_is_deed" sLIsDeed f fd) (m_len : mg "len" = none) (m_isinstance : mg "isinstance" = none) (m_tuple : mg "tuple" = none)
    (Cw : Callee P w K mg base j "_law_whole" ["_law_thing"] spWhole) (hj : j ≤ k) :
    FnOk P w K mg base CX0 (k + 1) f fd ["_law_house_here", "_law_thing"] spIsDeed := by
  refine F.ok cLIsDeed (fun vs H Q E h => ?_) (fun cdv A outer s H vs Q E hr h => ?_)
  · obtain ⟨d, a, b, h, z, sizes, kinds, v, x, rfl, _⟩ := h
    rfl
  · obtain ⟨d, a, b, h, z, sizes, kinds, v, x, rfl, hs, ht, q⟩ := h
    have hr := hr.mono hj
    refine ⟨_, (pss_cons (ps_if (PW.pt (pw_or (pt_not (pt_val (pe_callB call_isi (by rfl) m_isinstance PyProof.Rows.boot_isinstance (pa_cons (pv 1) (pa_cons (pe_bltn (v := .ty "tuple") (by rfl) m_tuple PyProof.Rows.boot_tuple rfl) pa_nil))))) (pw_or (pt_cmpR op_ne (pe_callB call_len_seq (by rfl) m_len PySem.boot_len (pa_cons (pv 1) pa_nil)) pe_int (nomark _)) (pw_or1 (pt_cmpR (op_neE hr.units) (pe_lc (own := [("_law_one_here", 6)]) (g := gName 6)  rfl cLIsDeed.nd (pi_tup (pv 1)) (blkOk_by (N := nLIsDeed) (sc := defScope sLIsDeed) (by decide +kernel)) (fun _ _ _ _ _ => (pg_name (i := 6) cLIsDeed.nd rfl (.inl rfl))) (fun _ _ _ _ _ => (pts_one (pt_not (pt_val (pe_u Cw hr (by rfl) (pa_cons (pv 6) pa_nil)))))) (fun _ _ _ _ _ => (pv 6))) (pe_lst pa_nil) (nomark _)))))) (pss_one (ps_ret pe_bl)) pss_nil)
        (pss_cons (ps_asg (pv 1) (pg_tup rfl (pgs_cons (pg_name (i := 2) cLIsDeed.nd rfl (.inl rfl)) (pgs_cons (pg_name (i := 3) cLIsDeed.nd rfl (.inl rfl)) (pgs_cons (pg_name (i := 4) cLIsDeed.nd rfl (.inl rfl)) pgs_nil)))))
        (pss_cons (ps_set (i := 5) cLIsDeed.nd rfl (.inl rfl) (pe_callB call_len_seq (by rfl) m_len PySem.boot_len (pa_cons (pe_ix ix_tup (pv 0) pe_int (fun _ _ => rfl)) pa_nil)))
        (pss_one (ps_ret (pe_and (pe_chain op_le op_lt pe_int (pv 2) (pe_ix ix_tup (pv 0) pe_int (fun _ _ => rfl))) (pe_and (pe_chain op_le op_lt pe_int (pv 3) (pv 5)) (pe_and (pe_chain op_le op_lt pe_int (pv 4) (pv 5)) (pe_one (pe_cmpR op_ne (pv 3) (pv 4) (nomark _))))))))))), ?_⟩
    have isi : TyX K H v (.type (tyN x)) := ht.ty
    refine ⟨v, rfl, v, .ty "tuple", _, _, isT x, rfl, .ty _, isi, kit_ty (kit_T x), _, rfl, iteNB (fun e => ?_) (fun e => ?_)⟩
    · refine iteT ?_
      have e0 : deedB kinds (sizes.length : Int) x = false := by
        cases x with
        | tuple _ => cases e
        | _ => rfl
      rw [e0] at q
      exact q _ (Same.refl _)
    · cases ht with
      | @tup p xs ds h1 h2 h3 =>
        have hl := h3.length
        refine ⟨.ref p, rfl, p, xs, rfl, .inr (SqT.of h1), rfl, _, rfl, ite2 (fun e2 => ?_) (fun e2 => ?_)⟩
        · have e0 : deedB kinds (sizes.length : Int) (.tuple ds) = false := by
            match ds, hl with
            | [], _ => rfl
            | [_], _ => rfl
            | [_, _], _ => rfl
            | [_, _, _], hl => exact absurd e2 (by rw [show xs.length = 3 from hl]; decide)
            | _ :: _ :: _ :: _ :: _, _ => rfl
          rw [e0] at q
          exact q _ (Same.refl _)
        · have l3 : xs.length = 3 := by
            by_cases z : (xs.length : Int) = 3
            · omega
            · exact absurd (show (!decide (V.int (xs.length : Int) = V.int 3)) = true by simp [z]) e2
          -- those that are no whole numbers
          refine ⟨.ref p, rfl, p, rfl, ⟨_, SqT.of h1⟩, fun D nD => lc_tup (xs := xs) (fun i H1 => Same H H1 ∧ ∃ acc, H1 D = some (.lst acc) ∧ acc.length ≤ i ∧ acc.isEmpty = (ds.take i).all isW)
            ⟨same_new nD, [], upd_same, Nat.zero_le _, rfl⟩ (fun i H1 _ p => SqT.of (p.1 _ _ h1)) (fun i y H1 hy p => ?_) (fun H1 p => ?_)⟩
          · obtain ⟨sm, acc, hD, la, ea⟩ := p
            obtain ⟨u, hu, tu⟩ := h3.get hy
            have hi : i < xs.length := (List.getElem?_eq_some_iff.mp hy).1
            have tu1 := Dt.keep (Kp.of sm) _ _ tu
            refine ⟨rfl, y, rfl, d, a, b, y, u, rfl, tu1, _, rfl, iteNB (fun e4 => ?_) (fun e4 => ?_)⟩
            · refine ⟨y, rfl, acc, hD, small1000 (by omega), ?_, acc ++ [y], upd_same, ?_, ?_⟩
              · intro t o ht
                rw [upd_ne (ne_of_none ht nD)]
                exact sm t o ht
              · rw [List.length_append, List.length_singleton]
                omega
              · rw [take_all hu, e4, Bool.and_false]
                cases acc <;> rfl
            · exact ⟨sm, acc, hD, by omega, by rw [take_all hu, e4, Bool.and_true]; exact ea⟩
          · obtain ⟨sm, acc, hD, la, ea⟩ := p
            refine ⟨Nat.zero_le _, fun e0 n0 => ?_⟩
            have sm2 := same_new (o := .lst []) n0
            refine ⟨D, e0, acc, rfl, rfl, SqL.of (sm2 _ _ hD), SqL.of upd_same, ?_⟩
            rw [ea, l3]
            have SM : Same H (upd H1 e0 (.lst [])) := sm.trans sm2
            generalize upd H1 e0 (.lst []) = H2 at SM
            match xs, ds, h3, l3, h1 with
            | [v1, v2, v3], [x1, x2, x3], .cons t1 (.cons t2 (.cons t3 .nil)), _, h1 =>
              have no : ∀ {c : Bool}, deedB kinds (sizes.length : Int) (.tuple [x1, x2, x3]) = c → Q (.bl c) H2 := fun e => by
                have q := q H2 SM
                rw [e] at q
                exact q
              refine ⟨_, rfl, iteNB (fun e5 => ?_) (fun e5 => ?_)⟩
              · refine no ?_
                cases e6 : deedB kinds (sizes.length : Int) (.tuple [x1, x2, x3]) with
                | false => rfl
                | true =>
                  simp only [deedB, Bool.and_eq_true] at e6
                  obtain ⟨i, _, rfl, _⟩ := of_inR t1 e6.1
                  obtain ⟨i2, _, rfl, _⟩ := of_inR t2 e6.2.1
                  obtain ⟨i3, _, rfl, _⟩ := of_inR t3 e6.2.2.1
                  simp [isW] at e5
              · simp only [List.take_succ_cons, List.take_zero, List.all_cons, List.all_nil, Bool.and_true, Bool.and_eq_true] at e5
                obtain ⟨i, rfl, rfl⟩ := of_isW t1 e5.1
                obtain ⟨i2, rfl, rfl⟩ := of_isW t2 e5.2.1
                obtain ⟨i3, rfl, rfl⟩ := of_isW t3 e5.2.2
                have hs2 := hs.same SM
                have hp2 := SM _ _ h1
                have hlen : ((sizes.map V.int).length : Int) = (sizes.length : Int) := by rw [List.length_map]
                refine ⟨.ref p, rfl, p, _, rfl, SqT.of hp2, rfl, .int i, _, rfl, .int i2, _, rfl, .int i3, _, rfl, rfl, ?_⟩
                refine ⟨.ref h, rfl, h, _, 0, .ref z, rfl, rfl, SqT.of hs2.h, at0, z, _, rfl, .inr (SqT.of hs2.z), ?_⟩
                rw [hlen]
                refine ⟨.int i, rfl, 0, i, rfl, rfl, _, rfl, ite2 (fun c1 => ?_) (fun c1 => ?_)⟩
                · have c1 : 0 ≤ i := of_decide_eq_true c1
                  refine ⟨.ref h, rfl, h, _, 1, .int kinds, rfl, rfl, SqT.of hs2.h, at1, i, kinds, rfl, rfl, _, rfl, ite2 (fun c2 => ?_) (fun c2 => ?_)⟩
                  · have c2 : i < kinds := of_decide_eq_true c2
                    refine ⟨.int i2, rfl, 0, i2, rfl, rfl, _, rfl, ite2 (fun c3 => ?_) (fun c3 => ?_)⟩
                    · have c3 : 0 ≤ i2 := of_decide_eq_true c3
                      refine ⟨_, rfl, i2, _, rfl, rfl, _, rfl, ite2 (fun c4 => ?_) (fun c4 => ?_)⟩
                      · have c4 : i2 < (sizes.length : Int) := of_decide_eq_true c4
                        refine ⟨.int i3, rfl, 0, i3, rfl, rfl, _, rfl, ite2 (fun c5 => ?_) (fun c5 => ?_)⟩
                        · have c5 : 0 ≤ i3 := of_decide_eq_true c5
                          refine ⟨_, rfl, i3, _, rfl, rfl, _, rfl, ite2 (fun c6 => ?_) (fun c6 => ?_)⟩
                          · have c6 : i3 < (sizes.length : Int) := of_decide_eq_true c6
                            refine ⟨.int i2, rfl, .int i3, rfl, rfl, no ?_⟩
                            simp [deedB, inR, ieq, c1, c3, c5, show i ≤ kinds - 1 by omega, show i2 ≤ (sizes.length : Int) - 1 by omega, show i3 ≤ (sizes.length : Int) - 1 by omega]
                          · have c6 : ¬ i3 ≤ (sizes.length : Int) - 1 := fun z => c6 (decide_eq_true (by omega))
                            exact no (by simp [deedB, inR, c6])
                        · have c5 : ¬ 0 ≤ i3 := fun z => c5 (decide_eq_true z)
                          exact ⟨_, rfl, iteF (no (by simp [deedB, inR, c5]))⟩
                      · have c4 : ¬ i2 ≤ (sizes.length : Int) - 1 := fun z => c4 (decide_eq_true (by omega))
                        exact no (by simp [deedB, inR, c4])
                    · have c3 : ¬ 0 ≤ i2 := fun z => c3 (decide_eq_true z)
                      exact ⟨_, rfl, iteF (no (by simp [deedB, inR, c3]))⟩
                  · have c2 : ¬ i ≤ kinds - 1 := fun z => c2 (decide_eq_true (by omega))
                    exact no (by simp [deedB, inR, c2])
                · have c1 : ¬ 0 ≤ i := fun z => c1 (decide_eq_true z)
                  exact ⟨_, rfl, iteF (no (by simp [deedB, inR, c1]))⟩
      | _ => cases e
end
end Fr

set_option Elab.async false
set_option linter.all false
set_option maxRecDepth 100000
namespace Fr
open PySem PySem.Spec PyProof.Rows L2

section
variable {P : Program} {w : World} {K : PySem.W.Frag} {mg : Str → Option Value} {base : Heap}
abbrev sBent : Stmt := topS 14
abbrev nBent : List Str := ["_law_deck_here", "_law_thing", "_law_deep", "_law_at"]
theorem cBent : FnScope nBent ["_law_deck_here", "_law_thing", "_law_deep"] (defScope sBent) :=
  ⟨rfl, rfl, rfl, by decide +kernel, rfl, by decide +kernel, by decide +kernel⟩

def szB : Nat → Nat
  | 0 => 400
  | n + 1 => 13 * (szS n + 2) + szB n + 400
theorem szB_ge : ∀ n, 400 ≤ szB n
  | 0 => Nat.le_refl _
  | n + 1 => by
    show 400 ≤ 13 * (szS n + 2) + szB n + 400
    omega
def spBent (n : Nat) : Sp := fun vs H Q _ => ∃ (d a : Addr) (b : Sd) (v : V) (x : PyData) (deep : Int) (c : Nat), vs = [.ref d, v, .int deep] ∧ Deck d a b H c ∧ Dt d a b H v x ∧ bs x = true ∧ x.depth ≤ n ∧ c + 10 * (n + 1) < 2 ^ 30 ∧
  ∀ H' v' x', Deck d a b H' (c + 10 * (n + 1)) → Kp d a b H H' → Dt d a b H' v' x' → Gd x' (szB n) (n + 3) → Q v' H'
def spB : Nat → Sp
  | 0 => fun _ _ _ _ => False
  | n + 1 => spBent n
theorem no_bent {f : Addr} {fd : FuncData} {k : Nat} {ps : List Str} : FnOk P w K mg base CX0 k f fd ps (spB 0) :=
  ⟨fun _ _ _ _ h => h.elim, fun _ _ _ _ _ _ _ _ _ _ _ _ _ h => h.elim⟩
theorem gdall_mid2 {xs ys : List PyData} {y : PyData} {n1 n m k : Nat} (hx : GdAll xs n1 k) (px : PlAll xs) (hy : Gd y m k) (hz : GdAll ys n k) (pz : PlAll ys) :
    GdAll (xs ++ y :: ys) (n1 + (m + 2 + n)) k := by
  have step : ∀ l : List PyData, PlAll l → PyData.showableAll l = true → PyData.depthAll l ≤ k → GdAll (l ++ y :: ys) (lens (PyData.shownAll l) + (m + 2 + n)) k := by
    intro l
    induction l with
    | nil =>
      intro _ _ _
      exact gdall_mono (gdall_cons hy hz (.inr pz)) (by omega) (Nat.le_refl _)
    | cons x l ih =>
      intro p sh dp
      have p1 : hasL x = false ∧ hasLAll l = false := by simpa [hasLAll] using p.l
      have p2 : x.hasDict = false ∧ PyData.hasDictAll l = false := by simpa [PyData.hasDictAll] using p.d
      have s1 : x.showable = true ∧ PyData.showableAll l = true := by simpa [PyData.showableAll] using sh
      have d1 : x.depth ≤ k ∧ PyData.depthAll l ≤ k := by simpa [PyData.depthAll, Nat.max_le] using dp
      have g := gdall_cons (x := x) (n := x.shown.length) (k := k) ⟨s1.1, fun _ => p1.1, d1.1, Nat.le_refl _⟩ (ih ⟨p1.2, p2.2⟩ s1.2 d1.2) (.inl ⟨p1.1, p2.1⟩)
      refine gdall_mono g ?_ (Nat.le_refl _)
      simp only [PyData.shownAll, lens]
      omega
  exact gdall_mono (step xs px hx.sh hx.dp) (by have := hx.ln; omega) (Nat.le_refl _)
theorem ok_bent {f : Addr} {fd : FuncData} {k j : Nat} (n : Nat) (hn5 : n ≤ 5) (F : Fun K "_law_bent" "_law_bent" sBent f fd) (m_len : mg "len" = none) (m_isinstance : mg "isinstance" = none) (m_tuple : mg "tuple" = none) (m_list : mg "list" = none) (m_int : mg "int" = none) (m_str : mg "str" = none)
    (Cn : Callee P w K mg base j "_law_next" ["_law_deck_here", "_law_many"] spNext) (Cd : Callee P w K mg base j "_law_odd" ["_law_deck_here"] spOdd)
    (Cb : Callee P w K mg base j "_law_bent" ["_law_deck_here", "_law_thing", "_law_deep"] (spB n)) (hj : j ≤ k) :
    FnOk P w K mg base CX0 (k + 1) f fd ["_law_deck_here", "_law_thing", "_law_deep"] (spBent n) := by
  refine F.ok cBent (fun vs H Q E h => ?_) (fun cdv A outer s H vs Q E hr h => ?_)
  · obtain ⟨d, a, b, v, x, deep, c, rfl, _⟩ := h
    rfl
  · obtain ⟨d, a, b, v, x, deep, c, rfl, D, ht, hb, hd, hc, q⟩ := h
    have hr := hr.mono hj
    refine ⟨_, (pss_cons (ps_if (PW.pt (pw_and (pt_val (pe_callB call_isi (by rfl) m_isinstance PyProof.Rows.boot_isinstance (pa_cons (pv 1) (pa_cons (pe_bltn (v := .ty "tuple") (by rfl) m_tuple PyProof.Rows.boot_tuple rfl) pa_nil)))) (pw_and (pt_cmpR (op_neD hr.units) (pv 1) (pe_tup pa_nil) (nomark _)) (pw_and (pt_cmpR op_gt (pv 2) pe_int (nomark _)) (pw_and1 (pt_cmpR op_gt (pe_u Cn hr (by rfl) (pa_cons (pv 0) (pa_cons pe_int pa_nil))) pe_int (nomark _))))))) (pss_cons (ps_set (i := 3) cBent.nd rfl (.inl rfl) (pe_u Cn hr (by rfl) (pa_cons (pv 0) (pa_cons (pe_callB call_len_seq (by rfl) m_len PySem.boot_len (pa_cons (pv 1) pa_nil)) pa_nil))))
        (pss_one (ps_ret (pe_op op_catA (pe_op op_catA (pe_slice sl_tupA (pv 1) po_none (po_some (pv 3))) (pe_tup (pa_cons (pe_u Cb hr (by rfl) (pa_cons (pv 0) (pa_cons (pe_ix ix_tup (pv 1) (pv 3) (fun _ _ => rfl)) (pa_cons (pe_op op_sub (pv 2) pe_int) pa_nil)))) pa_nil))) (pe_slice sl_tupA (pv 1) (po_some (pe_op op_add (pv 3) pe_int)) po_none))))) pss_nil)
        (pss_cons (ps_if (pt_val (pe_callB call_isi (by rfl) m_isinstance PyProof.Rows.boot_isinstance (pa_cons (pv 1) (pa_cons (pe_bltn (v := .ty "tuple") (by rfl) m_tuple PyProof.Rows.boot_tuple rfl) pa_nil)))) (pss_one (ps_ret (pe_ix ix_list (pe_lst (pa_cons (pe_slice sl_tupA (pv 1) (po_some pe_int) po_none) (pa_cons (pe_op op_catA (pv 1) (pe_slice sl_tupA (pv 1) (po_some (pe_un un_neg pe_int)) po_none)) (pa_cons (pe_revT (pv 1)) (pa_cons (pe_callTy call_list_of (by rfl) m_list PyProof.Rows.boot_list (pa_cons (pv 1) pa_nil)) (pa_cons (pe_u Cd hr (by rfl) (pa_cons (pv 0) pa_nil)) pa_nil)))))) (pe_u Cn hr (by rfl) (pa_cons (pv 0) (pa_cons pe_int pa_nil))) (fun _ _ => rfl)))) pss_nil)
        (pss_cons (ps_if (pt_val (pe_callB call_isi (by rfl) m_isinstance PyProof.Rows.boot_isinstance (pa_cons (pv 1) (pa_cons (pe_bltn (v := .ty "int") (by rfl) m_int PyProof.Rows.boot_int rfl) pa_nil)))) (pss_one (ps_ret (pe_ix ix_list (pe_lst (pa_cons (pe_op op_add (pv 1) pe_int) (pa_cons (pe_op op_sub (pv 1) pe_int) (pa_cons (pe_callTy call_str_int (by rfl) m_str PyProof.Rows.boot_str (pa_cons (pv 1) pa_nil)) (pa_cons (pe_cmpR op_eq (pv 1) pe_int (nomark _)) (pa_cons pe_int (pa_cons (pe_u Cd hr (by rfl) (pa_cons (pv 0) pa_nil)) pa_nil))))))) (pe_u Cn hr (by rfl) (pa_cons (pv 0) (pa_cons pe_int pa_nil))) (fun _ _ => rfl)))) pss_nil)
        (pss_one (ps_ret (pe_u Cd hr (by rfl) (pa_cons (pv 0) pa_nil))))))), ?_⟩
    have isi : TyX K H v (.type (tyN x)) := ht.ty
    have dp : Dp K H v x := Dt.dp x v ht hb
    cases ht with
    | int i =>
      have hi : i.natAbs < 10 ^ 13 := by simpa [bs] using hb
      refine ⟨.int i, rfl, .int i, .ty "tuple", _, _, false, rfl, .ty _, isi, kit_ty (kit_T (.int i)), _, rfl, iteF (iteF ?_)⟩
      refine ⟨.int i, rfl, .int i, .ty "tuple", _, _, false, rfl, .ty _, isi, kit_ty (kit_T (.int i)), _, rfl, iteF ?_⟩
      refine ⟨.int i, rfl, .int i, .ty "int", _, _, true, rfl, .ty _, isi, kit_ty (kit_I (.int i)), _, rfl, iteT ?_⟩
      refine ⟨.int i, rfl, i, 1, rfl, rfl, .int i, rfl, i, 1, rfl, rfl, .int i, rfl, i, rfl, ?_, .int i, rfl, rfl, .ref d, rfl, d, a, b, c, rfl, D, by omega, fun H1 v1 x1 D1 kp1 t1 g1 => ?_⟩
      · exact PySem.Flt.log2_lt_of (by decide) (Nat.lt_trans hi (by decide))
      refine ⟨(by show 6 ≤ sizeLine; decide), fun L nL => ?_⟩
      have D2 := D1.new (o := .lst [.int (i + 1), .int (i - 1), .str (Str.ofString (toString i)), .bl (decide (V.int i = V.int 1)), .int 0, v1]) nL
      have s2 := same_new (o := .lst [.int (i + 1), .int (i - 1), .str (Str.ofString (toString i)), .bl (decide (V.int i = V.int 1)), .int 0, v1]) nL
      have oL := D1.fresh nL
      refine ⟨.ref d, rfl, d, a, b, 6, c + 1, rfl, D2, by decide, by decide, by omega, fun H3 r D3 kp3 r0 r1 => ?_⟩
      have kp : Kp d a b H H3 := kp1.trans ((Kp.of s2).trans kp3)
      obtain ⟨m, em⟩ : ∃ m : Nat, r = (m : Int) := ⟨_, (Int.toNat_of_nonneg r0).symm⟩
      have hm : m < 6 := by omega
      have fin : ∀ v' x', Dt d a b H3 v' x' → Gd x' 400 3 → Q v' H3 := fun v' x' t g => q H3 v' x' (D3.mono (by omega)) kp t (g.mono (szB_ge n) (by omega))
      have hL := kp3 _ _ (upd_same (H := H1) (a := L) (o := .lst [.int (i + 1), .int (i - 1), .str (Str.ofString (toString i)), .bl (decide (V.int i = V.int 1)), .int 0, v1])) oL
      have num : ∀ z : Int, z.natAbs < 10 ^ 60 → Gd (.int z) 400 3 := fun z hz => (gd_int hz).mono (by decide) (by decide)
      have lt60 : ∀ z : Int, z.natAbs ≤ 10 ^ 13 → z.natAbs < 10 ^ 60 := fun z hz => Nat.lt_of_le_of_lt hz (by decide)
      subst em
      match m, hm with
      | 0, _ => exact ⟨L, _, 0, _, rfl, rfl, SqL.of hL, atI_nat (j := 0) rfl, fin _ _ (.int _) (num _ (lt60 _ (by omega)))⟩
      | 1, _ => exact ⟨L, _, 1, _, rfl, rfl, SqL.of hL, atI_nat (j := 1) rfl, fin _ _ (.int _) (num _ (lt60 _ (by omega)))⟩
      | 2, _ => exact ⟨L, _, 2, _, rfl, rfl, SqL.of hL, atI_nat (j := 2) rfl, fin _ _ (.str _) ((gd_str (repr_num hi)).mono (by decide) (by decide))⟩
      | 3, _ => exact ⟨L, _, 3, _, rfl, rfl, SqL.of hL, atI_nat (j := 3) rfl, fin _ _ (.bl _) ((gd_bl _).mono (by decide) (by decide))⟩
      | 4, _ => exact ⟨L, _, 4, _, rfl, rfl, SqL.of hL, atI_nat (j := 4) rfl, fin _ _ (.int _) (num _ (by decide))⟩
      | 5, _ => exact ⟨L, _, 5, _, rfl, rfl, SqL.of hL, atI_nat (j := 5) rfl, fin _ _ (Dt.keep ((Kp.of s2).trans kp3) _ _ t1) (g1.mono (by decide) (by decide))⟩
    | @tup p vs ds h1 h2 h3 =>
      cases n with
      | zero => simp [PyData.depth] at hd
      | succ n =>
      have hlen := h3.length
      have hb0 := hb
      simp only [bs, Bool.and_eq_true, decide_eq_true_eq] at hb
      have hdn : PyData.depthAll ds ≤ n := by simpa [PyData.depth] using hd
      have sub : ∀ l : List PyData, (∀ x ∈ l, x ∈ ds) → GdAll l (l.length * (szS n + 2)) n ∧ PlAll l := fun l hl =>
        bs_gdAll l n ((bsAll_iff l).mpr fun x hx => (bsAll_iff ds).mp hb.2 x (hl x hx)) ((depthAll_le l n).mpr fun x hx => (depthAll_le ds n).mp hdn x (hl x hx))
      have big : ∀ m : Nat, m ≤ 13 → m * (szS n + 2) ≤ 13 * (szS n + 2) := fun m hm => Nat.mul_le_mul_right _ hm
      -- a tuple of its own things is fit
      have tupOk : ∀ l : List PyData, (∀ x ∈ l, x ∈ ds) → l.length ≤ 13 → Gd (.tuple l) (szB (n + 1)) (n + 4) := fun l hl hm =>
        (gd_tup (sub l hl).1).mono (by have := big _ hm; show _ ≤ 13 * (szS n + 2) + szB n + 400; omega) (by omega)
      have lstOk : Gd (.list ds) (szB (n + 1)) (n + 4) :=
        (gd_lst (sub ds fun _ h => h).1 (sub ds fun _ h => h).2.d).mono (by have := big ds.length (by omega); show _ ≤ 13 * (szS n + 2) + szB n + 400; omega) (by omega)
      refine ⟨.ref p, rfl, .ref p, .ty "tuple", _, _, true, rfl, .ty _, isi, kit_ty (kit_T (.tuple ds)), _, rfl, iteT ?_⟩
      refine ⟨.ref p, rfl, Nat.zero_le _, fun e0 n0 => ?_⟩
      have D1 := D.new (o := .tup []) n0
      have s1 := same_new (o := .tup []) n0
      have t1 : Dt d a b (upd H e0 (.tup [])) (.ref p) (.tuple ds) := Dt.keep (Kp.of s1) _ _ (.tup h1 h2 h3)
      refine ⟨.tuple ds, .tuple [], Dt.dp _ _ t1 hb0, .tup (SqT.of upd_same) .nil, ?_, by decide, _, rfl, ?_⟩
      · simp only [SeqAt.shaped, Bool.and_eq_true, decide_eq_true_eq]
        exact ⟨bs_lay _ hb0, by omega⟩
      rw [eqv_nilT]
      have k1 : Kp d a b H (upd H e0 (.tup [])) := Kp.of s1
      generalize upd H e0 (.tup []) = H1 at D1 k1
      refine iteNB (fun e => ?_) (fun e => iteF ?_)
      · refine ⟨.int deep, rfl, deep, 0, rfl, rfl, _, rfl, ite2 (fun hdp => ?_) (fun _ => iteF ?_)⟩
        · refine ⟨.ref d, rfl, d, a, b, 4, c, rfl, D1, by decide, by decide, by omega, fun H2 r D2 kp2 r0 r1 => ?_⟩
          refine ⟨r, 0, rfl, rfl, _, rfl, ite2 (fun _ => ?_) (fun _ => ?_)⟩
          · -- one of its things bent
            have k2 := k1.trans kp2
            have hp2 := k2 _ _ h1 h2
            have l0 : 0 < vs.length := by
              rw [hlen]
              cases ds with
              | nil => cases e
              | cons _ _ => exact Nat.succ_pos _
            refine ⟨.ref d, rfl, .ref p, rfl, p, vs, rfl, .inr (SqT.of hp2), d, a, b, (vs.length : Int), c + 1, rfl, D2, by omega, Int.lt_of_le_of_lt (show (vs.length : Int) ≤ 12 by omega) (by decide), by omega, fun H3 at' D3 kp3 a0 a1 => ?_⟩
            obtain ⟨i, rfl⟩ : ∃ i : Nat, at' = (i : Int) := ⟨_, (Int.toNat_of_nonneg a0).symm⟩
            have hi : i < vs.length := by omega
            have k3 := k2.trans kp3
            have hp3 := k3 _ _ h1 h2
            refine ⟨.ref p, rfl, .int i, rfl, i, rfl, sl_any none (some (i : Int)) D3 hp3 h2 fun H4 r4 s4 D4 f4 o4 => ?_⟩
            rw [cut_to] at f4
            have k4 := k3.trans (Kp.of s4)
            have hp4 := k4 _ _ h1 h2
            obtain ⟨xi, gx, tx⟩ := h3.get (List.getElem?_eq_getElem hi)
            have mx : xi ∈ ds := List.mem_of_getElem? gx
            refine ⟨.ref d, rfl, .ref p, rfl, .int i, rfl, p, vs, i, vs[i], rfl, rfl, SqT.of hp4, atI_nat (List.getElem?_eq_getElem hi), .int deep, rfl, deep, 1, rfl, rfl, ?_⟩
            refine ⟨d, a, b, vs[i], xi, deep - 1, c + 2, rfl, D4, Dt.keep k4 _ _ tx, (bsAll_iff ds).mp hb.2 xi mx, (depthAll_le ds n).mp hdn xi mx, by omega, fun H5 v5 x5 D5 kp5 t5 g5 => ?_⟩
            refine ⟨(by show 1 ≤ sizeLine; decide), fun r6 n6 => ?_⟩
            have s6 := same_new (o := .tup [v5]) n6
            have D6 := D5.new (o := .tup [v5]) n6
            have o6 := D5.fresh n6
            have f6 : upd H5 r6 (.tup [v5]) r6 = some (.tup [v5]) := upd_same
            have t6 := Dt.keep (Kp.of s6) _ _ t5
            have k46 : Kp d a b H4 (upd H5 r6 (.tup [v5])) := kp5.trans (Kp.of s6)
            generalize upd H5 r6 (.tup [v5]) = H6 at D6 f6 t6 k46
            have f46 := k46 _ _ f4 o4
            refine cat_any D6 f46 f6 o4 o6 ?_ fun H7 r7 s7 D7 f7 o7 => ?_
            · rw [List.length_take]
              exact Nat.le_of_lt (small1000 (by show min i vs.length + 1 ≤ 1000; omega))
            have k7 := k4.trans (k46.trans (Kp.of s7))
            have hp7 := k7 _ _ h1 h2
            refine ⟨.ref p, rfl, .int i, rfl, i, 1, rfl, rfl, ((i + 1 : Nat) : Int), rfl, sl_from (some ((i + 1 : Nat) : Int)) D7 hp7 h2 fun H8 r8 s8 D8 f8 o8 => ?_⟩
            rw [cut_from] at f8
            refine cat_any D8 (s8 _ _ f7) f8 o7 o8 ?_ fun H9 r9 s9 D9 f9 o9 => ?_
            · rw [List.length_append, List.length_take, List.length_drop, List.length_singleton]
              exact Nat.le_of_lt (small1000 (by omega))
            have k9 := k7.trans ((Kp.of s8).trans (Kp.of s9))
            have t9 := DtAll.keep k9 _ _ h3
            have y9 := Dt.keep ((Kp.of s7).trans ((Kp.of s8).trans (Kp.of s9))) _ _ t6
            refine q H9 _ (.tuple (ds.take i ++ [x5] ++ ds.drop (i + 1))) (D9.mono (by omega)) k9 (.tup f9 o9 (((t9.take i).append (.cons y9 .nil)).append (t9.drop (i + 1)))) ?_
            have g1 := sub (ds.take i) fun x h => List.mem_of_mem_take h
            have g2 := sub (ds.drop (i + 1)) fun x h => List.mem_of_mem_drop h
            have tot : (ds.take i).length * (szS n + 2) + (ds.drop (i + 1)).length * (szS n + 2) ≤ 12 * (szS n + 2) := by
              rw [← Nat.add_mul]
              exact Nat.mul_le_mul_right _ (by rw [List.length_take, List.length_drop]; omega)
            have gm := gdall_mid2 (k := n + 3) (gdall_mono g1.1 (Nat.le_refl _) (by omega)) g1.2 g5 (gdall_mono g2.1 (Nat.le_refl _) (by omega)) g2.2
            rw [List.append_assoc]
            refine (gd_tup gm).mono ?_ (Nat.le_refl _)
            show _ ≤ 13 * (szS n + 2) + szB n + 400
            omega
          · refine ⟨.ref p, rfl, .ref p, .ty "tuple", _, _, true, rfl, .ty _, (Dt.keep (k1.trans kp2) _ _ (.tup h1 h2 h3)).ty, kit_ty (kit_T (.tuple ds)), _, rfl, iteT ?_⟩
            refine ⟨.ref p, rfl, 1, rfl, sl_from (some ((1 : Nat) : Int)) D2 ((k1.trans kp2) _ _ h1 h2) h2 fun Ha ra sa Da fa oa => ?_⟩
            rw [cut_from] at fa
            have ka := ((k1.trans kp2)).trans (Kp.of sa)
            refine ⟨.ref p, rfl, .ref p, rfl, 1, rfl, -1, rfl, sl_from (some (-1)) Da (ka _ _ h1 h2) h2 fun Hb rb sb Db fb ob => ?_⟩
            rw [cut_last] at fb
            have kb := ka.trans (Kp.of sb)
            have lb : (vs.drop (vs.length - 1)).length ≤ 1 := by rw [List.length_drop]; omega
            refine cat_any Db (kb _ _ h1 h2) fb h2 ob (Nat.le_of_lt (small1000 (by omega))) fun Hc rc sc Dc fc oc => ?_
            have kc := kb.trans (Kp.of sc)
            refine ⟨.ref p, rfl, p, vs, rfl, SqT.of (kc _ _ h1 h2), fun rd nd => ?_⟩
            have sd := same_new (o := .tup vs.reverse) nd
            have Dd := Dc.new (o := .tup vs.reverse) nd
            have od := Dc.fresh nd
            have fd' : upd Hc rd (.tup vs.reverse) rd = some (.tup vs.reverse) := upd_same
            generalize upd Hc rd (.tup vs.reverse) = Hd at sd Dd fd'
            have kd := kc.trans (Kp.of sd)
            refine ⟨.ref p, rfl, p, vs, rfl, .inr (SqT.of (kd _ _ h1 h2)), fun re ne => ?_⟩
            have se := same_new (o := .lst vs) ne
            have De := Dd.new (o := .lst vs) ne
            have oe := Dd.fresh ne
            have fe : upd Hd re (.lst vs) re = some (.lst vs) := upd_same
            generalize upd Hd re (.lst vs) = He at se De fe
            have ke := kd.trans (Kp.of se)
            refine ⟨.ref d, rfl, d, a, b, c + 1, rfl, De.mono (by omega), by omega, fun Hf vf xf Df kf tf gf => ?_⟩
            refine ⟨(by show 5 ≤ sizeLine; decide), fun L nL => ?_⟩
            have s8 := same_new (o := .lst [.ref ra, .ref rc, .ref rd, .ref re, vf]) nL
            have D8 := Df.new (o := .lst [.ref ra, .ref rc, .ref rd, .ref re, vf]) nL
            have oL := Df.fresh nL
            refine ⟨.ref d, rfl, d, a, b, 5, c + 2, rfl, D8, by decide, by decide, by omega, fun H9 r9 D9 k9 r0 r1 => ?_⟩
            have hL := k9 _ _ (upd_same (H := Hf) (a := L) (o := .lst [.ref ra, .ref rc, .ref rd, .ref re, vf])) oL
            have kz : Kp d a b He H9 := kf.trans ((Kp.of s8).trans k9)
            have kall := ke.trans kz
            have tz := DtAll.keep kall _ _ h3
            have fin : ∀ v' x', Dt d a b H9 v' x' → Gd x' (szB (n + 1)) (n + 4) → Q v' H9 := fun v' x' t g => q H9 v' x' (D9.mono (by omega)) kall t g
            obtain ⟨m, rfl⟩ : ∃ m : Nat, r9 = (m : Int) := ⟨_, (Int.toNat_of_nonneg r0).symm⟩
            have hm : m < 5 := by omega
            match m, hm with
            | 0, _ => exact ⟨L, _, 0, _, rfl, rfl, SqL.of hL, atI_nat (j := 0) rfl, fin _ _ (.tup (((Kp.of sb).trans ((Kp.of sc).trans ((Kp.of sd).trans ((Kp.of se).trans kz)))) _ _ fa oa) oa (tz.drop 1)) (tupOk _ (fun x h => List.mem_of_mem_drop h) (by rw [List.length_drop]; omega))⟩
            | 1, _ => exact ⟨L, _, 1, _, rfl, rfl, SqL.of hL, atI_nat (j := 1) rfl, fin _ _ (.tup (((Kp.of sd).trans ((Kp.of se).trans kz)) _ _ fc oc) oc (tz.append (tz.drop (vs.length - 1)))) (tupOk _ (fun x h => (List.mem_append.mp h).elim id List.mem_of_mem_drop) (by rw [List.length_append, List.length_drop]; omega))⟩
            | 2, _ => exact ⟨L, _, 2, _, rfl, rfl, SqL.of hL, atI_nat (j := 2) rfl, fin _ _ (.tup (((Kp.of se).trans kz) _ _ fd' od) od tz.reverse) (tupOk _ (fun x h => List.mem_reverse.mp h) (by rw [List.length_reverse]; omega))⟩
            | 3, _ => exact ⟨L, _, 3, _, rfl, rfl, SqL.of hL, atI_nat (j := 3) rfl, fin _ _ (.lst (kz _ _ fe oe) oe tz) lstOk⟩
            | 4, _ => exact ⟨L, _, 4, _, rfl, rfl, SqL.of hL, atI_nat (j := 4) rfl, fin _ _ (Dt.keep ((Kp.of s8).trans k9) _ _ tf) (gf.mono (by show 200 ≤ 13 * (szS n + 2) + szB n + 400; omega) (by omega))⟩
        · refine ⟨.ref p, rfl, .ref p, .ty "tuple", _, _, true, rfl, .ty _, (Dt.keep k1 _ _ (.tup h1 h2 h3)).ty, kit_ty (kit_T (.tuple ds)), _, rfl, iteT ?_⟩
          refine ⟨.ref p, rfl, 1, rfl, sl_from (some ((1 : Nat) : Int)) D1 (k1 _ _ h1 h2) h2 fun Ha ra sa Da fa oa => ?_⟩
          rw [cut_from] at fa
          have ka := (k1).trans (Kp.of sa)
          refine ⟨.ref p, rfl, .ref p, rfl, 1, rfl, -1, rfl, sl_from (some (-1)) Da (ka _ _ h1 h2) h2 fun Hb rb sb Db fb ob => ?_⟩
          rw [cut_last] at fb
          have kb := ka.trans (Kp.of sb)
          have lb : (vs.drop (vs.length - 1)).length ≤ 1 := by rw [List.length_drop]; omega
          refine cat_any Db (kb _ _ h1 h2) fb h2 ob (Nat.le_of_lt (small1000 (by omega))) fun Hc rc sc Dc fc oc => ?_
          have kc := kb.trans (Kp.of sc)
          refine ⟨.ref p, rfl, p, vs, rfl, SqT.of (kc _ _ h1 h2), fun rd nd => ?_⟩
          have sd := same_new (o := .tup vs.reverse) nd
          have Dd := Dc.new (o := .tup vs.reverse) nd
          have od := Dc.fresh nd
          have fd' : upd Hc rd (.tup vs.reverse) rd = some (.tup vs.reverse) := upd_same
          generalize upd Hc rd (.tup vs.reverse) = Hd at sd Dd fd'
          have kd := kc.trans (Kp.of sd)
          refine ⟨.ref p, rfl, p, vs, rfl, .inr (SqT.of (kd _ _ h1 h2)), fun re ne => ?_⟩
          have se := same_new (o := .lst vs) ne
          have De := Dd.new (o := .lst vs) ne
          have oe := Dd.fresh ne
          have fe : upd Hd re (.lst vs) re = some (.lst vs) := upd_same
          generalize upd Hd re (.lst vs) = He at se De fe
          have ke := kd.trans (Kp.of se)
          refine ⟨.ref d, rfl, d, a, b, c + 1, rfl, De.mono (by omega), by omega, fun Hf vf xf Df kf tf gf => ?_⟩
          refine ⟨(by show 5 ≤ sizeLine; decide), fun L nL => ?_⟩
          have s8 := same_new (o := .lst [.ref ra, .ref rc, .ref rd, .ref re, vf]) nL
          have D8 := Df.new (o := .lst [.ref ra, .ref rc, .ref rd, .ref re, vf]) nL
          have oL := Df.fresh nL
          refine ⟨.ref d, rfl, d, a, b, 5, c + 2, rfl, D8, by decide, by decide, by omega, fun H9 r9 D9 k9 r0 r1 => ?_⟩
          have hL := k9 _ _ (upd_same (H := Hf) (a := L) (o := .lst [.ref ra, .ref rc, .ref rd, .ref re, vf])) oL
          have kz : Kp d a b He H9 := kf.trans ((Kp.of s8).trans k9)
          have kall := ke.trans kz
          have tz := DtAll.keep kall _ _ h3
          have fin : ∀ v' x', Dt d a b H9 v' x' → Gd x' (szB (n + 1)) (n + 4) → Q v' H9 := fun v' x' t g => q H9 v' x' (D9.mono (by omega)) kall t g
          obtain ⟨m, rfl⟩ : ∃ m : Nat, r9 = (m : Int) := ⟨_, (Int.toNat_of_nonneg r0).symm⟩
          have hm : m < 5 := by omega
          match m, hm with
          | 0, _ => exact ⟨L, _, 0, _, rfl, rfl, SqL.of hL, atI_nat (j := 0) rfl, fin _ _ (.tup (((Kp.of sb).trans ((Kp.of sc).trans ((Kp.of sd).trans ((Kp.of se).trans kz)))) _ _ fa oa) oa (tz.drop 1)) (tupOk _ (fun x h => List.mem_of_mem_drop h) (by rw [List.length_drop]; omega))⟩
          | 1, _ => exact ⟨L, _, 1, _, rfl, rfl, SqL.of hL, atI_nat (j := 1) rfl, fin _ _ (.tup (((Kp.of sd).trans ((Kp.of se).trans kz)) _ _ fc oc) oc (tz.append (tz.drop (vs.length - 1)))) (tupOk _ (fun x h => (List.mem_append.mp h).elim id List.mem_of_mem_drop) (by rw [List.length_append, List.length_drop]; omega))⟩
          | 2, _ => exact ⟨L, _, 2, _, rfl, rfl, SqL.of hL, atI_nat (j := 2) rfl, fin _ _ (.tup (((Kp.of se).trans kz) _ _ fd' od) od tz.reverse) (tupOk _ (fun x h => List.mem_reverse.mp h) (by rw [List.length_reverse]; omega))⟩
          | 3, _ => exact ⟨L, _, 3, _, rfl, rfl, SqL.of hL, atI_nat (j := 3) rfl, fin _ _ (.lst (kz _ _ fe oe) oe tz) lstOk⟩
          | 4, _ => exact ⟨L, _, 4, _, rfl, rfl, SqL.of hL, atI_nat (j := 4) rfl, fin _ _ (Dt.keep ((Kp.of s8).trans k9) _ _ tf) (gf.mono (by show 200 ≤ 13 * (szS n + 2) + szB n + 400; omega) (by omega))⟩
      · refine ⟨.ref p, rfl, .ref p, .ty "tuple", _, _, true, rfl, .ty _, (Dt.keep k1 _ _ (.tup h1 h2 h3)).ty, kit_ty (kit_T (.tuple ds)), _, rfl, iteT ?_⟩
        refine ⟨.ref p, rfl, 1, rfl, sl_from (some ((1 : Nat) : Int)) D1 (k1 _ _ h1 h2) h2 fun Ha ra sa Da fa oa => ?_⟩
        rw [cut_from] at fa
        have ka := (k1).trans (Kp.of sa)
        refine ⟨.ref p, rfl, .ref p, rfl, 1, rfl, -1, rfl, sl_from (some (-1)) Da (ka _ _ h1 h2) h2 fun Hb rb sb Db fb ob => ?_⟩
        rw [cut_last] at fb
        have kb := ka.trans (Kp.of sb)
        have lb : (vs.drop (vs.length - 1)).length ≤ 1 := by rw [List.length_drop]; omega
        refine cat_any Db (kb _ _ h1 h2) fb h2 ob (Nat.le_of_lt (small1000 (by omega))) fun Hc rc sc Dc fc oc => ?_
        have kc := kb.trans (Kp.of sc)
        refine ⟨.ref p, rfl, p, vs, rfl, SqT.of (kc _ _ h1 h2), fun rd nd => ?_⟩
        have sd := same_new (o := .tup vs.reverse) nd
        have Dd := Dc.new (o := .tup vs.reverse) nd
        have od := Dc.fresh nd
        have fd' : upd Hc rd (.tup vs.reverse) rd = some (.tup vs.reverse) := upd_same
        generalize upd Hc rd (.tup vs.reverse) = Hd at sd Dd fd'
        have kd := kc.trans (Kp.of sd)
        refine ⟨.ref p, rfl, p, vs, rfl, .inr (SqT.of (kd _ _ h1 h2)), fun re ne => ?_⟩
        have se := same_new (o := .lst vs) ne
        have De := Dd.new (o := .lst vs) ne
        have oe := Dd.fresh ne
        have fe : upd Hd re (.lst vs) re = some (.lst vs) := upd_same
        generalize upd Hd re (.lst vs) = He at se De fe
        have ke := kd.trans (Kp.of se)
        refine ⟨.ref d, rfl, d, a, b, c + 1, rfl, De.mono (by omega), by omega, fun Hf vf xf Df kf tf gf => ?_⟩
        refine ⟨(by show 5 ≤ sizeLine; decide), fun L nL => ?_⟩
        have s8 := same_new (o := .lst [.ref ra, .ref rc, .ref rd, .ref re, vf]) nL
        have D8 := Df.new (o := .lst [.ref ra, .ref rc, .ref rd, .ref re, vf]) nL
        have oL := Df.fresh nL
        refine ⟨.ref d, rfl, d, a, b, 5, c + 2, rfl, D8, by decide, by decide, by omega, fun H9 r9 D9 k9 r0 r1 => ?_⟩
        have hL := k9 _ _ (upd_same (H := Hf) (a := L) (o := .lst [.ref ra, .ref rc, .ref rd, .ref re, vf])) oL
        have kz : Kp d a b He H9 := kf.trans ((Kp.of s8).trans k9)
        have kall := ke.trans kz
        have tz := DtAll.keep kall _ _ h3
        have fin : ∀ v' x', Dt d a b H9 v' x' → Gd x' (szB (n + 1)) (n + 4) → Q v' H9 := fun v' x' t g => q H9 v' x' (D9.mono (by omega)) kall t g
        obtain ⟨m, rfl⟩ : ∃ m : Nat, r9 = (m : Int) := ⟨_, (Int.toNat_of_nonneg r0).symm⟩
        have hm : m < 5 := by omega
        match m, hm with
        | 0, _ => exact ⟨L, _, 0, _, rfl, rfl, SqL.of hL, atI_nat (j := 0) rfl, fin _ _ (.tup (((Kp.of sb).trans ((Kp.of sc).trans ((Kp.of sd).trans ((Kp.of se).trans kz)))) _ _ fa oa) oa (tz.drop 1)) (tupOk _ (fun x h => List.mem_of_mem_drop h) (by rw [List.length_drop]; omega))⟩
        | 1, _ => exact ⟨L, _, 1, _, rfl, rfl, SqL.of hL, atI_nat (j := 1) rfl, fin _ _ (.tup (((Kp.of sd).trans ((Kp.of se).trans kz)) _ _ fc oc) oc (tz.append (tz.drop (vs.length - 1)))) (tupOk _ (fun x h => (List.mem_append.mp h).elim id List.mem_of_mem_drop) (by rw [List.length_append, List.length_drop]; omega))⟩
        | 2, _ => exact ⟨L, _, 2, _, rfl, rfl, SqL.of hL, atI_nat (j := 2) rfl, fin _ _ (.tup (((Kp.of se).trans kz) _ _ fd' od) od tz.reverse) (tupOk _ (fun x h => List.mem_reverse.mp h) (by rw [List.length_reverse]; omega))⟩
        | 3, _ => exact ⟨L, _, 3, _, rfl, rfl, SqL.of hL, atI_nat (j := 3) rfl, fin _ _ (.lst (kz _ _ fe oe) oe tz) lstOk⟩
        | 4, _ => exact ⟨L, _, 4, _, rfl, rfl, SqL.of hL, atI_nat (j := 4) rfl, fin _ _ (Dt.keep ((Kp.of s8).trans k9) _ _ tf) (gf.mono (by show 200 ≤ 13 * (szS n + 2) + szB n + 400; omega) (by omega))⟩
    | non => simp [bs] at hb
    | bl _ => simp [bs] at hb
    | str _ => simp [bs] at hb
    | lst _ _ _ => simp [bs] at hb
    | dct _ _ => simp [bs] at hb
end
end Fr

set_option Elab.async false
set_option linter.all false
set_option maxRecDepth 100000
namespace Fr
open PySem PySem.Spec PyProof.Rows L2

section
variable {P : Program} {w : World} {K : PySem.W.Frag} {mg : Str → Option Value} {base : Heap}
abbrev sLaw : Stmt := topS 16
abbrev nLaw : List Str := ["_law_script", "_law_deck_here", "_law_turn", "_law_house_here", "_law_rooms", "_law_deed", "_law_some", "_law_bend", "_law_thing", "_law_kept"]
theorem cLaw : FnScope nLaw ["_law_script"] (defScope sLaw) :=
  ⟨rfl, rfl, rfl, by decide +kernel, rfl, by decide +kernel, by decide +kernel⟩

theorem Hs.keep {d a : Addr} {b : Sd} {H H' : Hp} {h z : Addr} {sizes : List Int} {kinds : Int} (x : Hs H h z sizes kinds) (k : Kp d a b H H') (n1 : ¬ Own d a b h) (n2 : ¬ Own d a b z) : Hs H' h z sizes kinds := ⟨k _ _ x.h n1, k _ _ x.z n2⟩
def spLaw (K : PySem.W.Frag) : Sp := fun vs H Q _ => ∃ (e : Addr) (ns : List Int), vs = [.ref e] ∧ SqL K H e (ns.map V.int) ∧ ns.length ≤ 63 ∧ ∀ H', Q (.bl true) H'
theorem mix3 {d a : Addr} {b : Sd} {p : Addr} {H : Hp} {v1 v2 v3 : V} {x1 x2 x3 : PyData} (h : H p = some (.tup [v1, v2, v3])) (n : ¬ Own d a b p) (t1 : Dt d a b H v1 x1) (t2 : Dt d a b H v2 x2) (t3 : Dt d a b H v3 x3)
    (g1 : Gd x1 61 0) (g2 : Gd x2 61 0) (g3 : Gd x3 61 0) (p1 : Pl x1) (p2 : Pl x2) (p3 : Pl x3) : Th d a b H (.ref p) :=
  Th.of (.tup h n (.cons t1 (.cons t2 (.cons t3 .nil)))) (gd_tup (gdall_cons g1 (gdall_cons g2 (gdall_cons g3 gdall_nil (.inl p3)) (.inl p2)) (.inl p1))) (by decide) (by decide)
theorem pl_bl (k : Bool) : Pl (.bool k) := ⟨by simp [hasL], by simp [PyData.hasDict]⟩
theorem ok_law {f : Addr} {fd : FuncData} {k : Nat} (F : Fun K "law" "law" sLaw f fd) (m_range : mg "range" = none) (m_len : mg "len" = none) (m_list : mg "list" = none) (m_repr : mg "repr" = none)
    (Cdk : Callee P w K mg base k "_law_deck" ["_law_script"] (spDeck K)) (Cn : Callee P w K mg base k "_law_next" ["_law_deck_here", "_law_many"] spNext)
    (Ch : Callee P w K mg base k "_law_house" ["_law_deck_here", "_law_rooms", "_law_kinds"] spHouse) (Cd : Callee P w K mg base k "_law_odd" ["_law_deck_here"] spOdd)
    (Cb : Callee P w K mg base k "_law_bent" ["_law_deck_here", "_law_thing", "_law_deep"] (spBent 1))
    (Ci : Callee P w K mg base k "is_deed" ["house", "thing"] spIsDeed) (Cl : Callee P w K mg base k "_law_is_deed" ["_law_house_here", "_law_thing"] spIsDeed) :
    FnG P w K mg base (k + 1) f fd ["_law_script"] (spLaw K) := by
  refine okG F cLaw (fun vs H Q E h => ?_) (fun cdv A outer s H vs Q E gd hr h => ?_)
  · obtain ⟨e, ns, rfl, _⟩ := h
    rfl
  · obtain ⟨e, ns, rfl, hS, hl, q⟩ := h
    have hu := hr.units
    refine ⟨_, (pss_cons (ps_set (i := 1) cLaw.nd rfl (.inl rfl) (pe_u Cdk hr (by rfl) (pa_cons (pv 0) pa_nil)))
        (pss_cons (ps_for PassesOwn.never rfl (pi_range1 (by rfl) m_range (pa_cons pe_int pa_nil)) (pg_name (i := 2) cLaw.nd rfl (.inl rfl)) (pss_cons (ps_set (i := 3) cLaw.nd rfl (.inl rfl) (pe_u Ch hr (by rfl) (pa_cons (pv 1) (pa_cons (pe_op op_add pe_int (pe_u Cn hr (by rfl) (pa_cons (pv 1) (pa_cons pe_int pa_nil)))) (pa_cons (pe_op op_add pe_int (pe_u Cn hr (by rfl) (pa_cons (pv 1) (pa_cons pe_int pa_nil)))) pa_nil)))))
        (pss_cons (ps_set (i := 4) cLaw.nd rfl (.inl rfl) (pe_callB call_len_seq (by rfl) m_len PySem.boot_len (pa_cons (pe_ix ix_tup (pv 3) pe_int (fun _ _ => rfl)) pa_nil)))
        (pss_cons (ps_set (i := 5) cLaw.nd rfl (.inl rfl) (pe_tup (pa_cons (pe_u Cn hr (by rfl) (pa_cons (pv 1) (pa_cons (pe_op op_add (pe_ix ix_tup (pv 3) pe_int (fun _ _ => rfl)) pe_int) pa_nil))) (pa_cons (pe_u Cn hr (by rfl) (pa_cons (pv 1) (pa_cons (pe_op op_add (pv 4) pe_int) pa_nil))) (pa_cons (pe_u Cn hr (by rfl) (pa_cons (pv 1) (pa_cons (pe_op op_add (pv 4) pe_int) pa_nil))) pa_nil)))))
        (pss_cons (ps_set (i := 6) cLaw.nd rfl (.inl rfl) (pe_lst (pa_cons (pv 5) (pa_cons (pe_tup (pa_cons pe_int (pa_cons pe_int (pa_cons (pe_op op_sub (pv 4) pe_int) pa_nil)))) (pa_cons (pe_tup (pa_cons (pe_op op_sub (pe_ix ix_tup (pv 3) pe_int (fun _ _ => rfl)) pe_int) (pa_cons (pe_op op_sub (pv 4) pe_int) (pa_cons pe_int pa_nil)))) (pa_cons (pe_tup (pa_cons pe_int (pa_cons pe_int (pa_cons pe_int pa_nil)))) (pa_cons (pe_op op_catA (pv 5) (pe_tup (pa_cons pe_int pa_nil))) (pa_cons (pe_slice sl_tupA (pv 5) po_none (po_some pe_int)) (pa_cons (pe_callTy call_list_of (by rfl) m_list PyProof.Rows.boot_list (pa_cons (pv 5) pa_nil)) pa_nil)))))))))
        (pss_cons (ps_set (i := 6) cLaw.nd rfl (.inl rfl) (pe_op op_cat (pv 6) (pe_lst (pa_cons (pe_op op_catA (pe_tup (pa_cons (pe_un un_neg pe_int) pa_nil)) (pe_slice sl_tupA (pv 5) (po_some pe_int) po_none)) (pa_cons (pe_tup (pa_cons pe_int (pa_cons (pe_un un_neg pe_int) (pa_cons pe_int pa_nil)))) (pa_cons (pe_tup (pa_cons pe_int (pa_cons pe_int (pa_cons (pe_un un_neg pe_int) pa_nil)))) (pa_cons (pe_tup (pa_cons pe_bl (pa_cons pe_int (pa_cons (pe_op op_sub (pv 4) pe_int) pa_nil)))) (pa_cons (pe_tup (pa_cons pe_int (pa_cons (pe_op op_sub (pv 4) pe_int) (pa_cons pe_bl pa_nil)))) pa_nil))))))))
        (pss_cons (ps_for PassesOwn.never rfl (pi_range1 (by rfl) m_range (pa_cons pe_int pa_nil)) (pg_name (i := 7) cLaw.nd rfl (.inl rfl)) (pss_one (ps_expr (pe_bm PySem.F.plainAttrs_list PySem.F.slot_list_append PySem.F.type_list_append mt_append (pv 6) (pa_cons (pe_u Cb hr (by rfl) (pa_cons (pv 1) (pa_cons (pv 5) (pa_cons pe_int pa_nil)))) pa_nil)))))
        (pss_one (ps_for PassesOwn.never rfl (pi_list (pe_op op_cat (pv 6) (pe_lst (pa_cons (pe_u Cd hr (by rfl) (pa_cons (pv 1) pa_nil)) (pa_cons (pe_tup (pa_cons (pv 5) pa_nil)) pa_nil))))) (pg_name (i := 8) cLaw.nd rfl (.inl rfl)) (pss_cons (ps_set (i := 9) cLaw.nd rfl (.inl rfl) (pe_callB (call_show gd hu) (by rfl) m_repr PyProof.Rows.boot_repr (pa_cons (pv 8) pa_nil)))
        (pss_one (ps_if (PW.pt (pw_or (pt_cmpR op_ne (pe_callB (call_show gd hu) (by rfl) m_repr PyProof.Rows.boot_repr (pa_cons (pe_u Ci hr (by rfl) (pa_cons (pv 3) (pa_cons (pv 8) pa_nil))) pa_nil)) (pe_callB (call_show gd hu) (by rfl) m_repr PyProof.Rows.boot_repr (pa_cons (pe_u Cl hr (by rfl) (pa_cons (pv 3) (pa_cons (pv 8) pa_nil))) pa_nil)) (nomark _)) (pw_or1 (pt_cmpR op_ne (pe_callB (call_show gd hu) (by rfl) m_repr PyProof.Rows.boot_repr (pa_cons (pv 8) pa_nil)) (pv 9) (nomark _))))) (pss_one (ps_ret pe_bl)) pss_nil))))))))))))
        (pss_one (ps_ret pe_bl)))), ?_⟩
    refine ⟨.ref e, rfl, e, ns, rfl, hS, hl, fun H0 d a b sm0 D0 hbl => ?_⟩
    refine ⟨6, rfl, by decide, by decide, for_range (n := 6) (fun i σ H1 => ∃ y2 y3 y4 y5 y6 y7 y8 y9 : Option V, σ = [some (.ref e), some (.ref d), y2, y3, y4, y5, y6, y7, y8, y9] ∧ Deck d a b H1 (300 * i))
      ⟨none, none, none, none, none, none, none, none, rfl, D0⟩ (fun i σ H1 hi hP => ?_) (fun σ H1 hP => ?_)⟩
    · obtain ⟨y2, y3, y4, y5, y6, y7, y8, y9, rfl, D1⟩ := hP
      -- the house
      refine ⟨.ref d, rfl, .ref d, rfl, d, a, b, 8, _, rfl, D1, by decide, by decide, by omega, fun H2 r2 D2 kp2 r20 r21 => ?_⟩
      refine ⟨1, r2, rfl, rfl, .ref d, rfl, d, a, b, 6, _, rfl, D2, by decide, by decide, by omega, fun H3 r3 D3 kp3 r30 r31 => ?_⟩
      refine ⟨1, r3, rfl, rfl, d, a, b, 1 + r2, 1 + r3, _, rfl, D3, by omega, by omega, by omega, fun H4 h z sizes D4 kp4 hs4 oh oz ls hsz => ?_⟩
      have hlen : ((sizes.map V.int).length : Int) = (sizes.length : Int) := by rw [List.length_map]
      -- rooms
      refine ⟨.ref h, rfl, h, _, 0, .ref z, rfl, rfl, SqT.of hs4.h, at0, z, _, rfl, .inr (SqT.of hs4.z), ?_⟩
      rw [hlen]
      have rm1 : (sizes.length : Int) = 1 + r2 := by omega
      -- the deed
      refine ⟨.ref d, rfl, .ref h, rfl, h, _, 1, .int (1 + r3), rfl, rfl, SqT.of hs4.h, at1, 1 + r3, 1, rfl, rfl, d, a, b, _, _, rfl, D4, by omega, by omega, by omega, fun H5 r5 D5 kp5 r50 r51 => ?_⟩
      refine ⟨.ref d, rfl, _, rfl, _, 1, rfl, rfl, d, a, b, _, _, rfl, D5, by omega, by omega, by omega, fun H6 r6 D6 kp6 r60 r61 => ?_⟩
      refine ⟨.ref d, rfl, _, rfl, _, 1, rfl, rfl, d, a, b, _, _, rfl, D6, by omega, by omega, by omega, fun H7 r7 D7 kp7 r70 r71 => ?_⟩
      refine ⟨(by show 3 ≤ sizeLine; decide), fun dd ndd => ?_⟩
      have hs4 := (((hs4.keep kp5 oh oz).keep kp6 oh oz).keep kp7 oh oz)
      have bR : (sizes.length : Int) ≤ 9 := by omega
      have s10 := same_new (o := .tup [.int r5, .int r6, .int r7]) ndd
      have D10 := D7.new (o := .tup [.int r5, .int r6, .int r7]) ndd
      have odd := D7.fresh ndd
      have fdd : upd H7 dd (.tup [.int r5, .int r6, .int r7]) dd = some (.tup [.int r5, .int r6, .int r7]) := upd_same
      have k10 : Kp d a b H7 (upd H7 dd (.tup [.int r5, .int r6, .int r7])) := Kp.of s10
      generalize upd H7 dd (.tup [.int r5, .int r6, .int r7]) = H10 at D10 fdd k10
      clear s10
      replace hs4 := hs4.keep k10 oh oz
      have tdd : Th d a b H10 (.ref dd) := Th.ints (l := [r5, r6, r7]) fdd odd (by show 3 ≤ 12; decide) (by intro i hi; simp only [List.mem_cons, List.not_mem_nil, or_false] at hi; omega)
      refine ⟨.ref dd, rfl, .int (sizes.length : Int), rfl, (sizes.length : Int), 1, rfl, rfl, (by show 3 ≤ sizeLine; decide), fun p1 n1 => ?_⟩
      have s11 := same_new (o := .tup [.int 0, .int 0, .int ((sizes.length : Int) - 1)]) n1
      have D11 := D10.new (o := .tup [.int 0, .int 0, .int ((sizes.length : Int) - 1)]) n1
      have op1 := D10.fresh n1
      have fp1 : upd H10 p1 (.tup [.int 0, .int 0, .int ((sizes.length : Int) - 1)]) p1 = some (.tup [.int 0, .int 0, .int ((sizes.length : Int) - 1)]) := upd_same
      have k11 : Kp d a b H10 (upd H10 p1 (.tup [.int 0, .int 0, .int ((sizes.length : Int) - 1)])) := Kp.of s11
      generalize upd H10 p1 (.tup [.int 0, .int 0, .int ((sizes.length : Int) - 1)]) = H11 at D11 fp1 k11
      clear s11
      replace hs4 := hs4.keep k11 oh oz
      replace fdd := k11 _ _ fdd odd
      replace tdd := Th.keep k11 tdd
      have tp1 : Th d a b H11 (.ref p1) := Th.ints (l := [0, 0, (sizes.length : Int) - 1]) fp1 op1 (by show 3 ≤ 12; decide) (by intro i hi; simp only [List.mem_cons, List.not_mem_nil, or_false] at hi; omega)
      refine ⟨.ref h, rfl, h, _, 1, .int (1 + r3), rfl, rfl, SqT.of hs4.h, at1, 1 + r3, 1, rfl, rfl, .int (sizes.length : Int), rfl, (sizes.length : Int), 1, rfl, rfl, (by show 3 ≤ sizeLine; decide), fun p2 n2 => ?_⟩
      have s12 := same_new (o := .tup [.int (1 + r3 - 1), .int ((sizes.length : Int) - 1), .int 0]) n2
      have D12 := D11.new (o := .tup [.int (1 + r3 - 1), .int ((sizes.length : Int) - 1), .int 0]) n2
      have op2 := D11.fresh n2
      have fp2 : upd H11 p2 (.tup [.int (1 + r3 - 1), .int ((sizes.length : Int) - 1), .int 0]) p2 = some (.tup [.int (1 + r3 - 1), .int ((sizes.length : Int) - 1), .int 0]) := upd_same
      have k12 : Kp d a b H11 (upd H11 p2 (.tup [.int (1 + r3 - 1), .int ((sizes.length : Int) - 1), .int 0])) := Kp.of s12
      generalize upd H11 p2 (.tup [.int (1 + r3 - 1), .int ((sizes.length : Int) - 1), .int 0]) = H12 at D12 fp2 k12
      clear s12
      replace hs4 := hs4.keep k12 oh oz
      replace fdd := k12 _ _ fdd odd
      replace tdd := Th.keep k12 tdd
      replace tp1 := Th.keep k12 tp1
      have tp2 : Th d a b H12 (.ref p2) := Th.ints (l := [1 + r3 - 1, (sizes.length : Int) - 1, 0]) fp2 op2 (by show 3 ≤ 12; decide) (by intro i hi; simp only [List.mem_cons, List.not_mem_nil, or_false] at hi; omega)
      refine ⟨(by show 3 ≤ sizeLine; decide), fun p3 n3 => ?_⟩
      have s13 := same_new (o := .tup [.int 0, .int 0, .int 0]) n3
      have D13 := D12.new (o := .tup [.int 0, .int 0, .int 0]) n3
      have op3 := D12.fresh n3
      have fp3 : upd H12 p3 (.tup [.int 0, .int 0, .int 0]) p3 = some (.tup [.int 0, .int 0, .int 0]) := upd_same
      have k13 : Kp d a b H12 (upd H12 p3 (.tup [.int 0, .int 0, .int 0])) := Kp.of s13
      generalize upd H12 p3 (.tup [.int 0, .int 0, .int 0]) = H13 at D13 fp3 k13
      clear s13
      replace hs4 := hs4.keep k13 oh oz
      replace fdd := k13 _ _ fdd odd
      replace tdd := Th.keep k13 tdd
      replace tp1 := Th.keep k13 tp1
      replace tp2 := Th.keep k13 tp2
      have tp3 : Th d a b H13 (.ref p3) := Th.ints (l := [0, 0, 0]) fp3 op3 (by show 3 ≤ 12; decide) (by intro i hi; simp only [List.mem_cons, List.not_mem_nil, or_false] at hi; omega)
      refine ⟨.ref dd, rfl, (by show 1 ≤ sizeLine; decide), fun u4 m4 => ?_⟩
      have s14 := same_new (o := .tup [.int 0]) m4
      have D14 := D13.new (o := .tup [.int 0]) m4
      have ou4 := D13.fresh m4
      have fu4 : upd H13 u4 (.tup [.int 0]) u4 = some (.tup [.int 0]) := upd_same
      have k14 : Kp d a b H13 (upd H13 u4 (.tup [.int 0])) := Kp.of s14
      generalize upd H13 u4 (.tup [.int 0]) = H14 at D14 fu4 k14
      clear s14
      replace hs4 := hs4.keep k14 oh oz
      replace fdd := k14 _ _ fdd odd
      replace tdd := Th.keep k14 tdd
      replace tp1 := Th.keep k14 tp1
      replace tp2 := Th.keep k14 tp2
      replace tp3 := Th.keep k14 tp3
      refine cat_any D14 fdd fu4 odd ou4 (by show 4 ≤ sizeLine; decide) fun Hc4 p4 sc4 Dc4 fp4 op4 => ?_
      have kc4 : Kp d a b H14 Hc4 := Kp.of sc4
      replace hs4 := hs4.keep kc4 oh oz
      replace fdd := kc4 _ _ fdd odd
      replace tdd := Th.keep kc4 tdd
      replace tp1 := Th.keep kc4 tp1
      replace tp2 := Th.keep kc4 tp2
      replace tp3 := Th.keep kc4 tp3
      have tp4 : Th d a b Hc4 (.ref p4) := Th.ints (l := [r5, r6, r7, 0]) fp4 op4 (by show 4 ≤ 12; decide) (by intro i hi; simp only [List.mem_cons, List.not_mem_nil, or_false] at hi; omega)
      refine ⟨.ref dd, rfl, 2, rfl, sl_any none (some ((2 : Nat) : Int)) Dc4 fdd odd fun Hc5 p5 sc5 Dc5 fp5 op5 => ?_⟩
      rw [cut_to] at fp5
      have kc5 : Kp d a b Hc4 Hc5 := Kp.of sc5
      replace hs4 := hs4.keep kc5 oh oz
      replace fdd := kc5 _ _ fdd odd
      replace tdd := Th.keep kc5 tdd
      replace tp1 := Th.keep kc5 tp1
      replace tp2 := Th.keep kc5 tp2
      replace tp3 := Th.keep kc5 tp3
      replace tp4 := Th.keep kc5 tp4
      have tp5 : Th d a b Hc5 (.ref p5) := Th.ints (l := [r5, r6]) fp5 op5 (by show 2 ≤ 12; decide) (by intro i hi; simp only [List.mem_cons, List.not_mem_nil, or_false] at hi; omega)
      refine ⟨.ref dd, rfl, dd, _, rfl, .inr (SqT.of fdd), fun p6 n6 => ?_⟩
      have s15 := same_new (o := .lst [.int r5, .int r6, .int r7]) n6
      have D15 := Dc5.new (o := .lst [.int r5, .int r6, .int r7]) n6
      have op6 := Dc5.fresh n6
      have fp6 : upd Hc5 p6 (.lst [.int r5, .int r6, .int r7]) p6 = some (.lst [.int r5, .int r6, .int r7]) := upd_same
      have k15 : Kp d a b Hc5 (upd Hc5 p6 (.lst [.int r5, .int r6, .int r7])) := Kp.of s15
      generalize upd Hc5 p6 (.lst [.int r5, .int r6, .int r7]) = H15 at D15 fp6 k15
      clear s15
      replace hs4 := hs4.keep k15 oh oz
      replace fdd := k15 _ _ fdd odd
      replace tdd := Th.keep k15 tdd
      replace tp1 := Th.keep k15 tp1
      replace tp2 := Th.keep k15 tp2
      replace tp3 := Th.keep k15 tp3
      replace tp4 := Th.keep k15 tp4
      replace tp5 := Th.keep k15 tp5
      have tp6 : Th d a b H15 (.ref p6) := Th.lints (l := [r5, r6, r7]) fp6 op6 (by show 3 ≤ 12; decide) (by intro i hi; simp only [List.mem_cons, List.not_mem_nil, or_false] at hi; omega)
      refine ⟨(by show 7 ≤ sizeLine; decide), fun L1 nL1 => ?_⟩
      have s16 := same_new (o := .lst [.ref dd, .ref p1, .ref p2, .ref p3, .ref p4, .ref p5, .ref p6]) nL1
      have D16 := D15.new (o := .lst [.ref dd, .ref p1, .ref p2, .ref p3, .ref p4, .ref p5, .ref p6]) nL1
      have oL1 := D15.fresh nL1
      have fL1 : upd H15 L1 (.lst [.ref dd, .ref p1, .ref p2, .ref p3, .ref p4, .ref p5, .ref p6]) L1 = some (.lst [.ref dd, .ref p1, .ref p2, .ref p3, .ref p4, .ref p5, .ref p6]) := upd_same
      have k16 : Kp d a b H15 (upd H15 L1 (.lst [.ref dd, .ref p1, .ref p2, .ref p3, .ref p4, .ref p5, .ref p6])) := Kp.of s16
      generalize upd H15 L1 (.lst [.ref dd, .ref p1, .ref p2, .ref p3, .ref p4, .ref p5, .ref p6]) = H16 at D16 fL1 k16
      clear s16
      replace hs4 := hs4.keep k16 oh oz
      replace fdd := k16 _ _ fdd odd
      replace tdd := Th.keep k16 tdd
      replace tp1 := Th.keep k16 tp1
      replace tp2 := Th.keep k16 tp2
      replace tp3 := Th.keep k16 tp3
      replace tp4 := Th.keep k16 tp4
      replace tp5 := Th.keep k16 tp5
      replace tp6 := Th.keep k16 tp6
      refine ⟨.ref L1, rfl, 1, rfl, (by show 1 ≤ sizeLine; decide), fun u7 m7 => ?_⟩
      have s17 := same_new (o := .tup [.int (-1)]) m7
      have D17 := D16.new (o := .tup [.int (-1)]) m7
      have ou7 := D16.fresh m7
      have fu7 : upd H16 u7 (.tup [.int (-1)]) u7 = some (.tup [.int (-1)]) := upd_same
      have k17 : Kp d a b H16 (upd H16 u7 (.tup [.int (-1)])) := Kp.of s17
      generalize upd H16 u7 (.tup [.int (-1)]) = H17 at D17 fu7 k17
      clear s17
      replace hs4 := hs4.keep k17 oh oz
      replace fdd := k17 _ _ fdd odd
      replace tdd := Th.keep k17 tdd
      replace tp1 := Th.keep k17 tp1
      replace tp2 := Th.keep k17 tp2
      replace tp3 := Th.keep k17 tp3
      replace tp4 := Th.keep k17 tp4
      replace tp5 := Th.keep k17 tp5
      replace tp6 := Th.keep k17 tp6
      replace fL1 := k17 _ _ fL1 oL1
      refine ⟨.ref dd, rfl, 1, rfl, sl_from (some ((1 : Nat) : Int)) D17 fdd odd fun Hc7 v7 sc7 Dc7 fv7 ov7 => ?_⟩
      rw [cut_from] at fv7
      have kc7 : Kp d a b H17 Hc7 := Kp.of sc7
      replace hs4 := hs4.keep kc7 oh oz
      replace fdd := kc7 _ _ fdd odd
      replace tdd := Th.keep kc7 tdd
      replace tp1 := Th.keep kc7 tp1
      replace tp2 := Th.keep kc7 tp2
      replace tp3 := Th.keep kc7 tp3
      replace tp4 := Th.keep kc7 tp4
      replace tp5 := Th.keep kc7 tp5
      replace tp6 := Th.keep kc7 tp6
      replace fL1 := kc7 _ _ fL1 oL1
      replace fu7 := kc7 _ _ fu7 ou7
      refine cat_any Dc7 fu7 fv7 ou7 ov7 (by show 3 ≤ sizeLine; decide) fun Hc8 p7 sc8 Dc8 fp7 op7 => ?_
      have kc8 : Kp d a b Hc7 Hc8 := Kp.of sc8
      replace hs4 := hs4.keep kc8 oh oz
      replace fdd := kc8 _ _ fdd odd
      replace tdd := Th.keep kc8 tdd
      replace tp1 := Th.keep kc8 tp1
      replace tp2 := Th.keep kc8 tp2
      replace tp3 := Th.keep kc8 tp3
      replace tp4 := Th.keep kc8 tp4
      replace tp5 := Th.keep kc8 tp5
      replace tp6 := Th.keep kc8 tp6
      replace fL1 := kc8 _ _ fL1 oL1
      replace fu7 := kc8 _ _ fu7 ou7
      have tp7 : Th d a b Hc8 (.ref p7) := Th.ints (l := [-1, r6, r7]) fp7 op7 (by show 3 ≤ 12; decide) (by intro i hi; simp only [List.mem_cons, List.not_mem_nil, or_false] at hi; omega)
      refine ⟨1, rfl, (by show 3 ≤ sizeLine; decide), fun p8 n8 => ?_⟩
      have s18 := same_new (o := .tup [.int 0, .int (-1), .int 0]) n8
      have D18 := Dc8.new (o := .tup [.int 0, .int (-1), .int 0]) n8
      have op8 := Dc8.fresh n8
      have fp8 : upd Hc8 p8 (.tup [.int 0, .int (-1), .int 0]) p8 = some (.tup [.int 0, .int (-1), .int 0]) := upd_same
      have k18 : Kp d a b Hc8 (upd Hc8 p8 (.tup [.int 0, .int (-1), .int 0])) := Kp.of s18
      generalize upd Hc8 p8 (.tup [.int 0, .int (-1), .int 0]) = H18 at D18 fp8 k18
      clear s18
      replace hs4 := hs4.keep k18 oh oz
      replace fdd := k18 _ _ fdd odd
      replace tdd := Th.keep k18 tdd
      replace tp1 := Th.keep k18 tp1
      replace tp2 := Th.keep k18 tp2
      replace tp3 := Th.keep k18 tp3
      replace tp4 := Th.keep k18 tp4
      replace tp5 := Th.keep k18 tp5
      replace tp6 := Th.keep k18 tp6
      replace fL1 := k18 _ _ fL1 oL1
      replace fu7 := k18 _ _ fu7 ou7
      replace tp7 := Th.keep k18 tp7
      have tp8 : Th d a b H18 (.ref p8) := Th.ints (l := [0, -1, 0]) fp8 op8 (by show 3 ≤ 12; decide) (by intro i hi; simp only [List.mem_cons, List.not_mem_nil, or_false] at hi; omega)
      refine ⟨1, rfl, (by show 3 ≤ sizeLine; decide), fun p9 n9 => ?_⟩
      have s19 := same_new (o := .tup [.int 0, .int 0, .int (-1)]) n9
      have D19 := D18.new (o := .tup [.int 0, .int 0, .int (-1)]) n9
      have op9 := D18.fresh n9
      have fp9 : upd H18 p9 (.tup [.int 0, .int 0, .int (-1)]) p9 = some (.tup [.int 0, .int 0, .int (-1)]) := upd_same
      have k19 : Kp d a b H18 (upd H18 p9 (.tup [.int 0, .int 0, .int (-1)])) := Kp.of s19
      generalize upd H18 p9 (.tup [.int 0, .int 0, .int (-1)]) = H19 at D19 fp9 k19
      clear s19
      replace hs4 := hs4.keep k19 oh oz
      replace fdd := k19 _ _ fdd odd
      replace tdd := Th.keep k19 tdd
      replace tp1 := Th.keep k19 tp1
      replace tp2 := Th.keep k19 tp2
      replace tp3 := Th.keep k19 tp3
      replace tp4 := Th.keep k19 tp4
      replace tp5 := Th.keep k19 tp5
      replace tp6 := Th.keep k19 tp6
      replace fL1 := k19 _ _ fL1 oL1
      replace fu7 := k19 _ _ fu7 ou7
      replace tp7 := Th.keep k19 tp7
      replace tp8 := Th.keep k19 tp8
      have tp9 : Th d a b H19 (.ref p9) := Th.ints (l := [0, 0, -1]) fp9 op9 (by show 3 ≤ 12; decide) (by intro i hi; simp only [List.mem_cons, List.not_mem_nil, or_false] at hi; omega)
      have gR : Gd (.int ((sizes.length : Int) - 1)) 61 0 := gd_int (Nat.lt_of_lt_of_le (show ((sizes.length : Int) - 1).natAbs < 100 by omega) (by decide))
      have g0 : Gd (.int 0) 61 0 := gd_int (by decide)
      refine ⟨.int (sizes.length : Int), rfl, (sizes.length : Int), 1, rfl, rfl, (by show 3 ≤ sizeLine; decide), fun pA nA => ?_⟩
      have s20 := same_new (o := .tup [.bl true, .int 0, .int ((sizes.length : Int) - 1)]) nA
      have D20 := D19.new (o := .tup [.bl true, .int 0, .int ((sizes.length : Int) - 1)]) nA
      have opA := D19.fresh nA
      have fpA : upd H19 pA (.tup [.bl true, .int 0, .int ((sizes.length : Int) - 1)]) pA = some (.tup [.bl true, .int 0, .int ((sizes.length : Int) - 1)]) := upd_same
      have k20 : Kp d a b H19 (upd H19 pA (.tup [.bl true, .int 0, .int ((sizes.length : Int) - 1)])) := Kp.of s20
      generalize upd H19 pA (.tup [.bl true, .int 0, .int ((sizes.length : Int) - 1)]) = H20 at D20 fpA k20
      clear s20
      replace hs4 := hs4.keep k20 oh oz
      replace fdd := k20 _ _ fdd odd
      replace tdd := Th.keep k20 tdd
      replace tp1 := Th.keep k20 tp1
      replace tp2 := Th.keep k20 tp2
      replace tp3 := Th.keep k20 tp3
      replace tp4 := Th.keep k20 tp4
      replace tp5 := Th.keep k20 tp5
      replace tp6 := Th.keep k20 tp6
      replace fL1 := k20 _ _ fL1 oL1
      replace fu7 := k20 _ _ fu7 ou7
      replace tp7 := Th.keep k20 tp7
      replace tp8 := Th.keep k20 tp8
      replace tp9 := Th.keep k20 tp9
      have tpA : Th d a b H20 (.ref pA) := mix3 fpA opA (.bl _) (.int _) (.int _) ((gd_bl true).mono (by decide) (by decide)) g0 gR (pl_bl _) (pl_int _) (pl_int _)
      refine ⟨.int (sizes.length : Int), rfl, (sizes.length : Int), 1, rfl, rfl, (by show 3 ≤ sizeLine; decide), fun pB nB => ?_⟩
      have s21 := same_new (o := .tup [.int 0, .int ((sizes.length : Int) - 1), .bl false]) nB
      have D21 := D20.new (o := .tup [.int 0, .int ((sizes.length : Int) - 1), .bl false]) nB
      have opB := D20.fresh nB
      have fpB : upd H20 pB (.tup [.int 0, .int ((sizes.length : Int) - 1), .bl false]) pB = some (.tup [.int 0, .int ((sizes.length : Int) - 1), .bl false]) := upd_same
      have k21 : Kp d a b H20 (upd H20 pB (.tup [.int 0, .int ((sizes.length : Int) - 1), .bl false])) := Kp.of s21
      generalize upd H20 pB (.tup [.int 0, .int ((sizes.length : Int) - 1), .bl false]) = H21 at D21 fpB k21
      clear s21
      replace hs4 := hs4.keep k21 oh oz
      replace fdd := k21 _ _ fdd odd
      replace tdd := Th.keep k21 tdd
      replace tp1 := Th.keep k21 tp1
      replace tp2 := Th.keep k21 tp2
      replace tp3 := Th.keep k21 tp3
      replace tp4 := Th.keep k21 tp4
      replace tp5 := Th.keep k21 tp5
      replace tp6 := Th.keep k21 tp6
      replace fL1 := k21 _ _ fL1 oL1
      replace fu7 := k21 _ _ fu7 ou7
      replace tp7 := Th.keep k21 tp7
      replace tp8 := Th.keep k21 tp8
      replace tp9 := Th.keep k21 tp9
      replace tpA := Th.keep k21 tpA
      have tpB : Th d a b H21 (.ref pB) := mix3 fpB opB (.int _) (.int _) (.bl _) g0 gR ((gd_bl false).mono (by decide) (by decide)) (pl_int _) (pl_int _) (pl_bl _)
      refine ⟨(by show 5 ≤ sizeLine; decide), fun L2 nL2 => ?_⟩
      have s22 := same_new (o := .lst [.ref p7, .ref p8, .ref p9, .ref pA, .ref pB]) nL2
      have D22 := D21.new (o := .lst [.ref p7, .ref p8, .ref p9, .ref pA, .ref pB]) nL2
      have oL2 := D21.fresh nL2
      have fL2 : upd H21 L2 (.lst [.ref p7, .ref p8, .ref p9, .ref pA, .ref pB]) L2 = some (.lst [.ref p7, .ref p8, .ref p9, .ref pA, .ref pB]) := upd_same
      have k22 : Kp d a b H21 (upd H21 L2 (.lst [.ref p7, .ref p8, .ref p9, .ref pA, .ref pB])) := Kp.of s22
      generalize upd H21 L2 (.lst [.ref p7, .ref p8, .ref p9, .ref pA, .ref pB]) = H22 at D22 fL2 k22
      clear s22
      replace hs4 := hs4.keep k22 oh oz
      replace fdd := k22 _ _ fdd odd
      replace tdd := Th.keep k22 tdd
      replace tp1 := Th.keep k22 tp1
      replace tp2 := Th.keep k22 tp2
      replace tp3 := Th.keep k22 tp3
      replace tp4 := Th.keep k22 tp4
      replace tp5 := Th.keep k22 tp5
      replace tp6 := Th.keep k22 tp6
      replace fL1 := k22 _ _ fL1 oL1
      replace fu7 := k22 _ _ fu7 ou7
      replace tp7 := Th.keep k22 tp7
      replace tp8 := Th.keep k22 tp8
      replace tp9 := Th.keep k22 tp9
      replace tpA := Th.keep k22 tpA
      replace tpB := Th.keep k22 tpB
      refine ⟨L1, L2, _, _, rfl, rfl, fL1, fL2, (by show 12 ≤ sizeLine; decide), fun L3 nL3 => ?_⟩
      have tall : Ths d a b H22 ([.ref dd, .ref p1, .ref p2, .ref p3, .ref p4, .ref p5, .ref p6] ++ [.ref p7, .ref p8, .ref p9, .ref pA, .ref pB]) := by
        intro v hv
        simp only [List.cons_append, List.nil_append, List.mem_cons, List.not_mem_nil, or_false] at hv
        rcases hv with e | e | e | e | e | e | e | e | e | e | e | e <;> rw [e] <;> assumption
      obtain ⟨n12, e12⟩ : ∃ l : List V, l = [.ref dd, .ref p1, .ref p2, .ref p3, .ref p4, .ref p5, .ref p6] ++ [.ref p7, .ref p8, .ref p9, .ref pA, .ref pB] := ⟨_, rfl⟩
      rw [← e12] at tall ⊢
      have l12 : n12.length = 12 := by rw [e12]; rfl
      clear e12
      have oh2 : ¬ Own d a ⟨b.b, some L3⟩ h := side_no nL3 hs4.h oh
      have oz2 : ¬ Own d a ⟨b.b, some L3⟩ z := side_no nL3 hs4.z oz
      have od2 : ¬ Own d a ⟨b.b, some L3⟩ dd := side_no nL3 fdd odd
      have oL3 : ¬ Ow d a ⟨b.b, some L3⟩ L3 := (show ¬ Ow d a b L3 from off (D22.fresh nL3))
      have ownL : Own d a ⟨b.b, some L3⟩ L3 := .inr rfl
      have kL : Kp d a ⟨b.b, some L3⟩ H22 (upd H22 L3 (.lst n12)) := Kp.new nL3
      have DL : Deck d a ⟨b.b, some L3⟩ (upd H22 L3 (.lst n12)) (300 * i + 30) := ((D22.new nL3).side upd_same).mono (by omega)
      have tL : Ths d a ⟨b.b, some L3⟩ (upd H22 L3 (.lst n12)) n12 := fun v hv => (Th.side hbl nL3 (tall v hv)).keep kL
      have hsL := hs4.keep kL oh2 oz2
      have fdL := kL _ _ fdd od2
      have fL3 : upd H22 L3 (.lst n12) L3 = some (.lst n12) := upd_same
      generalize upd H22 L3 (.lst n12) = HL at DL tL hsL fdL fL3
      refine ⟨6, rfl, by decide, by decide, for_range (n := 6) (fun i2 σ G => ∃ (y7 y8 y9 : Option V) (acc : List V), σ = [some (.ref e), some (.ref d), some (.int (0 + i)), some (.ref h), some (.int (sizes.length : Int)), some (.ref dd), some (.ref L3), y7, y8, y9] ∧ Deck d a ⟨b.b, some L3⟩ G (300 * i + 30 + 20 * i2) ∧ Hs G h z sizes (1 + r3) ∧ G dd = some (.tup [.int r5, .int r6, .int r7]) ∧ G L3 = some (.lst acc) ∧ acc.length = 12 + i2 ∧ Ths d a ⟨b.b, some L3⟩ G acc)
        ⟨y7, y8, y9, n12, rfl, DL, hsL, fdL, fL3, l12, tL⟩ (fun i2 σ G hi2 hP => ?_) (fun σ G hP => ?_)⟩
      · obtain ⟨y7, y8, y9, acc, rfl, DG, hsG, fG, fL, lA, allG⟩ := hP
        refine ⟨.ref L3, rfl, .inl ⟨rfl, _, SqL.of fL⟩, .ref d, rfl, .ref dd, rfl, d, a, ⟨b.b, some L3⟩, .ref dd, _, 2, _, rfl, DG, Dt.ints (l := [r5, r6, r7]) fG od2, bs_ints (l := [r5, r6, r7]) (by show 3 ≤ 12; decide) (by intro i hi; simp only [List.mem_cons, List.not_mem_nil, or_false] at hi; omega), Nat.le_of_eq (depth_tup [r5, r6, r7]), by omega, fun G2 v2 x2 DG2 kG tG gG => ?_⟩
        have fL2 := kG.run _ _ fL oL3
        have hG := hsG.keep kG oh2 oz2
        have fG2 := kG _ _ fG od2
        refine ⟨L3, _, _, rfl, rfl, fL2, small1000 (by omega), some (.int (0 + i2)), y8, y9, acc ++ [v2], rfl, (DG2.put oL3).mono (by omega), ?_, ?_, upd_same, ?_, ?_⟩
        · exact ⟨by rw [upd_ne (ne_of hG.h fL2 (by intro z; cases z))]; exact hG.h, by rw [upd_ne (ne_of hG.z fL2 (by intro z; cases z))]; exact hG.z⟩
        · rw [upd_ne (ne_of fG2 fL2 (by intro z; cases z))]
          exact fG2
        · rw [List.length_append, List.length_singleton]
          omega
        · intro v hv
          refine Th.put ownL ?_
          rcases List.mem_append.mp hv with m | m
          · exact (allG v m).keep kG
          · rw [List.mem_singleton.mp m]
            exact Th.of tG gG (by decide) (by decide)
      · obtain ⟨y7, y8, y9, acc, rfl, DG, hsG, fG, fL, lA, allG⟩ := hP
        refine ⟨.ref L3, rfl, .ref d, rfl, d, a, ⟨b.b, some L3⟩, _, rfl, DG, by omega, fun G2 v2 x2 DG2 kG tG gG => ?_⟩
        have fL2 := kG.run _ _ fL oL3
        have hG := hsG.keep kG oh2 oz2
        have fG2 := kG _ _ fG od2
        have all2 := allG.keep kG
        have th2 : Th d a ⟨b.b, some L3⟩ G2 v2 := Th.of tG gG (by decide) (by decide)
        refine ⟨.ref dd, rfl, (by show 1 ≤ sizeLine; decide), fun pC nC => ?_⟩
        have D50 := DG2.new (o := .tup [.ref dd]) nC
        have opC := DG2.fresh nC
        have fpC : upd G2 pC (.tup [.ref dd]) pC = some (.tup [.ref dd]) := upd_same
        have k50 : Kp d a ⟨b.b, some L3⟩ G2 (upd G2 pC (.tup [.ref dd])) := Kp.new nC
        generalize upd G2 pC (.tup [.ref dd]) = H50 at D50 fpC k50
        replace fL2 := k50.run _ _ fL2 oL3
        replace hG := hG.keep k50 oh2 oz2
        replace all2 := Ths.keep k50 all2
        replace th2 := Th.keep k50 th2
        replace fG2 := k50 _ _ fG2 od2
        have thC : Th d a ⟨b.b, some L3⟩ H50 (.ref pC) := by
          obtain ⟨g, pl⟩ := bs_gd _ 1 (bs_ints (l := [r5, r6, r7]) (by show 3 ≤ 12; decide) (by intro i hi; simp only [List.mem_cons, List.not_mem_nil, or_false] at hi; omega)) (Nat.le_of_eq (depth_tup [r5, r6, r7]))
          exact Th.of (.tup fpC opC (.cons (Dt.ints (l := [r5, r6, r7]) fG2 od2) .nil)) (gd_tup (gdall_cons g (gdall_mono gdall_nil (Nat.le_refl _) (by decide)) (.inl pl))) (by decide) (by decide)
        refine ⟨(by show 2 ≤ sizeLine; decide), fun L4 nL4 => ?_⟩
        have D51 := D50.new (o := .lst [v2, .ref pC]) nL4
        have oL4 := D50.fresh nL4
        have fL4 : upd H50 L4 (.lst [v2, .ref pC]) L4 = some (.lst [v2, .ref pC]) := upd_same
        have k51 : Kp d a ⟨b.b, some L3⟩ H50 (upd H50 L4 (.lst [v2, .ref pC])) := Kp.new nL4
        generalize upd H50 L4 (.lst [v2, .ref pC]) = H51 at D51 fL4 k51
        replace fL2 := k51.run _ _ fL2 oL3
        replace hG := hG.keep k51 oh2 oz2
        replace all2 := Ths.keep k51 all2
        replace th2 := Th.keep k51 th2
        replace fG2 := k51 _ _ fG2 od2
        replace thC := Th.keep k51 thC
        refine ⟨L3, L4, _, _, rfl, rfl, fL2, fL4, Nat.le_of_lt (small1000 (by show acc.length + 2 ≤ 1000; omega)), fun L5 nL5 => ?_⟩
        have D52 := D51.new (o := .lst (acc ++ [v2, .ref pC])) nL5
        have oL5 := D51.fresh nL5
        have fL5 : upd H51 L5 (.lst (acc ++ [v2, .ref pC])) L5 = some (.lst (acc ++ [v2, .ref pC])) := upd_same
        have k52 : Kp d a ⟨b.b, some L3⟩ H51 (upd H51 L5 (.lst (acc ++ [v2, .ref pC]))) := Kp.new nL5
        generalize upd H51 L5 (.lst (acc ++ [v2, .ref pC])) = H52 at D52 fL5 k52
        replace fL2 := k52.run _ _ fL2 oL3
        replace hG := hG.keep k52 oh2 oz2
        replace all2 := Ths.keep k52 all2
        replace th2 := Th.keep k52 th2
        replace fG2 := k52 _ _ fG2 od2
        replace thC := Th.keep k52 thC
        have al5 : Ths d a ⟨b.b, some L3⟩ H52 (acc ++ [v2, .ref pC]) := by
          intro v hv
          rcases List.mem_append.mp hv with m | m
          · exact all2 v m
          · simp only [List.mem_cons, List.not_mem_nil, or_false] at m
            rcases m with m | m <;> rw [m] <;> assumption
        obtain ⟨items, ei⟩ : ∃ l : List V, l = acc ++ [v2, .ref pC] := ⟨_, rfl⟩
        rw [← ei] at al5 fL5
        refine ⟨L5, rfl, ⟨items, SqL.of fL5⟩, for_list (xs := items) (fun i3 σ G3 => ∃ y8 y9 : Option V, σ = [some (.ref e), some (.ref d), some (.int (0 + i)), some (.ref h), some (.int (sizes.length : Int)), some (.ref dd), some (.ref L3), y7, y8, y9] ∧ Deck d a ⟨b.b, some L3⟩ G3 (300 * i + 300) ∧ Hs G3 h z sizes (1 + r3) ∧ G3 L5 = some (.lst items) ∧ Ths d a ⟨b.b, some L3⟩ G3 items)
          ⟨y8, y9, rfl, D52.mono (by omega), hG, fL5, al5⟩ (fun i3 σ G3 _ hP => ?_) (fun i3 v σ G3 hv hP => ?_) (fun σ G3 hP => ?_)⟩
        · obtain ⟨y8, y9, rfl, D3, h3, f3, a3⟩ := hP
          exact SqL.of f3
        · obtain ⟨y8, y9, rfl, D3, h3, f3, a3⟩ := hP
          obtain ⟨x, tx, gx⟩ := a3 v (List.mem_of_getElem? hv)
          refine ⟨v, rfl, d, a, ⟨b.b, some L3⟩, v, x, rfl, tx, gx.sh, gx.dl, gx.d30, gx.sl, ?_⟩
          refine ⟨.ref h, rfl, v, rfl, d, a, ⟨b.b, some L3⟩, h, z, sizes, 1 + r3, v, x, rfl, h3, tx, fun G4 sm4 => ?_⟩
          refine ⟨d, a, ⟨b.b, some L3⟩, .bl _, .bool _, rfl, .bl _, (gdb _).sh, (gdb _).dl, (gdb _).d30, (gdb _).sl, ?_⟩
          have tx4 := Dt.keep (Kp.of sm4) _ _ tx
          refine ⟨.ref h, rfl, v, rfl, d, a, ⟨b.b, some L3⟩, h, z, sizes, 1 + r3, v, x, rfl, h3.same sm4, tx4, fun G5 sm5 => ?_⟩
          refine ⟨d, a, ⟨b.b, some L3⟩, .bl _, .bool _, rfl, .bl _, (gdb _).sh, (gdb _).dl, (gdb _).d30, (gdb _).sl, ?_⟩
          refine ⟨rfl, _, rfl, iteNS rfl ?_⟩
          have tx5 := Dt.keep (Kp.of sm5) _ _ tx4
          refine ⟨v, rfl, d, a, ⟨b.b, some L3⟩, v, x, rfl, tx5, gx.sh, gx.dl, gx.d30, gx.sl, ?_⟩
          refine ⟨_, rfl, rfl, _, rfl, iteNS rfl ?_⟩
          have sm := sm4.trans sm5
          exact ⟨some v, _, rfl, D3.same sm, h3.same sm, sm _ _ f3, a3.keep (Kp.of sm)⟩
        · obtain ⟨y8, y9, rfl, D3, h3, f3, a3⟩ := hP
          exact ⟨_, _, _, _, _, _, _, _, rfl, (D3.unside hbl).mono (by omega)⟩

    · obtain ⟨y2, y3, y4, y5, y6, y7, y8, y9, rfl, D1⟩ := hP
      exact q H1

end
end Fr

set_option Elab.async false
set_option linter.all false
set_option maxRecDepth 100000
namespace Fr
open PySem PySem.Spec PyProof.Rows L2
theorem all_mk {l : PySem.W.OpenLaw} {w : World} {K : PySem.W.Frag} {h : Heap} {mg : Str → Option Value} {fa : Addr}
    (X : K.In h) (G : h.Ns mainGlobals mg) (hfa : mg "law" = some (.ref fa))
    {f0 : Addr} {od0 an0 : Option Addr} {sl0 : Array (Option Value)} {oc0 kv0 dc0 pm0 cd0 ct0 : Value}
    (a0 : PySem.W.nsIn K mainGlobals "is_whole" = some (some (.ref f0)))
    (l0 : K.lookup f0 = some ⟨oc0, od0, .func (PySem.W.fnOf "is_whole" "is_whole" (defArgs sWhole) (defBody sWhole) (defScope sWhole) .none kv0 dc0 pm0 an0 cd0 ct0), sl0⟩)
    (c0 : PySem.W.codeIn K cd0 "is_whole" = true) (k0 : PySem.W.keepIn K (.ref f0) = true)
    {f1 : Addr} {od1 an1 : Option Addr} {sl1 : Array (Option Value)} {oc1 kv1 dc1 pm1 cd1 ct1 : Value}
    (a1 : PySem.W.nsIn K mainGlobals "is_from" = some (some (.ref f1)))
    (l1 : K.lookup f1 = some ⟨oc1, od1, .func (PySem.W.fnOf "is_from" "is_from" (defArgs sFrom) (defBody sFrom) (defScope sFrom) .none kv1 dc1 pm1 an1 cd1 ct1), sl1⟩)
    (c1 : PySem.W.codeIn K cd1 "is_from" = true) (k1 : PySem.W.keepIn K (.ref f1) = true)
    {f2 : Addr} {od2 an2 : Option Addr} {sl2 : Array (Option Value)} {oc2 kv2 dc2 pm2 cd2 ct2 : Value}
    (a2 : PySem.W.nsIn K mainGlobals "is_kind" = some (some (.ref f2)))
    (l2 : K.lookup f2 = some ⟨oc2, od2, .func (PySem.W.fnOf "is_kind" "is_kind" (defArgs sKind) (defBody sKind) (defScope sKind) .none kv2 dc2 pm2 an2 cd2 ct2), sl2⟩)
    (c2 : PySem.W.codeIn K cd2 "is_kind" = true) (k2 : PySem.W.keepIn K (.ref f2) = true)
    {f3 : Addr} {od3 an3 : Option Addr} {sl3 : Array (Option Value)} {oc3 kv3 dc3 pm3 cd3 ct3 : Value}
    (a3 : PySem.W.nsIn K mainGlobals "is_room" = some (some (.ref f3)))
    (l3 : K.lookup f3 = some ⟨oc3, od3, .func (PySem.W.fnOf "is_room" "is_room" (defArgs sRoom) (defBody sRoom) (defScope sRoom) .none kv3 dc3 pm3 an3 cd3 ct3), sl3⟩)
    (c3 : PySem.W.codeIn K cd3 "is_room" = true) (k3 : PySem.W.keepIn K (.ref f3) = true)
    {f4 : Addr} {od4 an4 : Option Addr} {sl4 : Array (Option Value)} {oc4 kv4 dc4 pm4 cd4 ct4 : Value}
    (a4 : PySem.W.nsIn K mainGlobals "is_deed" = some (some (.ref f4)))
    (l4 : K.lookup f4 = some ⟨oc4, od4, .func (PySem.W.fnOf "is_deed" "is_deed" (defArgs sIsDeed) (defBody sIsDeed) (defScope sIsDeed) .none kv4 dc4 pm4 an4 cd4 ct4), sl4⟩)
    (c4 : PySem.W.codeIn K cd4 "is_deed" = true) (k4 : PySem.W.keepIn K (.ref f4) = true)
    {f5 : Addr} {od5 an5 : Option Addr} {sl5 : Array (Option Value)} {oc5 kv5 dc5 pm5 cd5 ct5 : Value}
    (a5 : PySem.W.nsIn K mainGlobals "_law_deck" = some (some (.ref f5)))
    (l5 : K.lookup f5 = some ⟨oc5, od5, .func (PySem.W.fnOf "_law_deck" "_law_deck" (defArgs sDeck) (defBody sDeck) (defScope sDeck) .none kv5 dc5 pm5 an5 cd5 ct5), sl5⟩)
    (c5 : PySem.W.codeIn K cd5 "_law_deck" = true) (k5 : PySem.W.keepIn K (.ref f5) = true)
    {f6 : Addr} {od6 an6 : Option Addr} {sl6 : Array (Option Value)} {oc6 kv6 dc6 pm6 cd6 ct6 : Value}
    (a6 : PySem.W.nsIn K mainGlobals "_law_next" = some (some (.ref f6)))
    (l6 : K.lookup f6 = some ⟨oc6, od6, .func (PySem.W.fnOf "_law_next" "_law_next" (defArgs sNext) (defBody sNext) (defScope sNext) .none kv6 dc6 pm6 an6 cd6 ct6), sl6⟩)
    (c6 : PySem.W.codeIn K cd6 "_law_next" = true) (k6 : PySem.W.keepIn K (.ref f6) = true)
    {f7 : Addr} {od7 an7 : Option Addr} {sl7 : Array (Option Value)} {oc7 kv7 dc7 pm7 cd7 ct7 : Value}
    (a7 : PySem.W.nsIn K mainGlobals "_law_one" = some (some (.ref f7)))
    (l7 : K.lookup f7 = some ⟨oc7, od7, .func (PySem.W.fnOf "_law_one" "_law_one" (defArgs sOne) (defBody sOne) (defScope sOne) .none kv7 dc7 pm7 an7 cd7 ct7), sl7⟩)
    (c7 : PySem.W.codeIn K cd7 "_law_one" = true) (k7 : PySem.W.keepIn K (.ref f7) = true)
    {f8 : Addr} {od8 an8 : Option Addr} {sl8 : Array (Option Value)} {oc8 kv8 dc8 pm8 cd8 ct8 : Value}
    (a8 : PySem.W.nsIn K mainGlobals "_law_whole" = some (some (.ref f8)))
    (l8 : K.lookup f8 = some ⟨oc8, od8, .func (PySem.W.fnOf "_law_whole" "_law_whole" (defArgs sLWhole) (defBody sLWhole) (defScope sLWhole) .none kv8 dc8 pm8 an8 cd8 ct8), sl8⟩)
    (c8 : PySem.W.codeIn K cd8 "_law_whole" = true) (k8 : PySem.W.keepIn K (.ref f8) = true)
    {f9 : Addr} {od9 an9 : Option Addr} {sl9 : Array (Option Value)} {oc9 kv9 dc9 pm9 cd9 ct9 : Value}
    (a9 : PySem.W.nsIn K mainGlobals "_law_house" = some (some (.ref f9)))
    (l9 : K.lookup f9 = some ⟨oc9, od9, .func (PySem.W.fnOf "_law_house" "_law_house" (defArgs sHouse) (defBody sHouse) (defScope sHouse) .none kv9 dc9 pm9 an9 cd9 ct9), sl9⟩)
    (c9 : PySem.W.codeIn K cd9 "_law_house" = true) (k9 : PySem.W.keepIn K (.ref f9) = true)
    {f10 : Addr} {od10 an10 : Option Addr} {sl10 : Array (Option Value)} {oc10 kv10 dc10 pm10 cd10 ct10 : Value}
    (a10 : PySem.W.nsIn K mainGlobals "_law_odd" = some (some (.ref f10)))
    (l10 : K.lookup f10 = some ⟨oc10, od10, .func (PySem.W.fnOf "_law_odd" "_law_odd" (defArgs sOdd) (defBody sOdd) (defScope sOdd) .none kv10 dc10 pm10 an10 cd10 ct10), sl10⟩)
    (c10 : PySem.W.codeIn K cd10 "_law_odd" = true) (k10 : PySem.W.keepIn K (.ref f10) = true)
    {f11 : Addr} {od11 an11 : Option Addr} {sl11 : Array (Option Value)} {oc11 kv11 dc11 pm11 cd11 ct11 : Value}
    (a11 : PySem.W.nsIn K mainGlobals "_law_bent" = some (some (.ref f11)))
    (l11 : K.lookup f11 = some ⟨oc11, od11, .func (PySem.W.fnOf "_law_bent" "_law_bent" (defArgs sBent) (defBody sBent) (defScope sBent) .none kv11 dc11 pm11 an11 cd11 ct11), sl11⟩)
    (c11 : PySem.W.codeIn K cd11 "_law_bent" = true) (k11 : PySem.W.keepIn K (.ref f11) = true)
    {f12 : Addr} {od12 an12 : Option Addr} {sl12 : Array (Option Value)} {oc12 kv12 dc12 pm12 cd12 ct12 : Value}
    (a12 : PySem.W.nsIn K mainGlobals "_law_is_deed" = some (some (.ref f12)))
    (l12 : K.lookup f12 = some ⟨oc12, od12, .func (PySem.W.fnOf "_law_is_deed" "_law_is_deed" (defArgs sLIsDeed) (defBody sLIsDeed) (defScope sLIsDeed) .none kv12 dc12 pm12 an12 cd12 ct12), sl12⟩)
    (c12 : PySem.W.codeIn K cd12 "_law_is_deed" = true) (k12 : PySem.W.keepIn K (.ref f12) = true)
    {f13 : Addr} {od13 an13 : Option Addr} {sl13 : Array (Option Value)} {oc13 kv13 dc13 pm13 cd13 ct13 : Value}
    (a13 : PySem.W.nsIn K mainGlobals "law" = some (some (.ref f13)))
    (l13 : K.lookup f13 = some ⟨oc13, od13, .func (PySem.W.fnOf "law" "law" (defArgs sLaw) (defBody sLaw) (defScope sLaw) .none kv13 dc13 pm13 an13 cd13 ct13), sl13⟩)
    (c13 : PySem.W.codeIn K cd13 "law" = true) (k13 : PySem.W.keepIn K (.ref f13) = true)
    (z_abs : PySem.W.nsIn K mainGlobals "abs" = some none)
    (z_len : PySem.W.nsIn K mainGlobals "len" = some none)
    (z_isinstance : PySem.W.nsIn K mainGlobals "isinstance" = some none)
    (z_int : PySem.W.nsIn K mainGlobals "int" = some none)
    (z_bool : PySem.W.nsIn K mainGlobals "bool" = some none)
    (z_tuple : PySem.W.nsIn K mainGlobals "tuple" = some none)
    (z_list : PySem.W.nsIn K mainGlobals "list" = some none)
    (z_str : PySem.W.nsIn K mainGlobals "str" = some none)
    (z_range : PySem.W.nsIn K mainGlobals "range" = some none)
    (z_repr : PySem.W.nsIn K mainGlobals "repr" = some none)
    : ∃ fd : FuncData, (∀ (s : Shared) (v : Value), BindsTo s fd ⟨[v], []⟩ [("_law_script", v)]) ∧
      ∀ base : Heap, K.In base → base.Ns mainGlobals mg → FnG l.prog w K mg base 5 fa fd ["_law_script"] (spLaw K) := by
  have e := hfa.symm.trans (PySem.W.mg_of X G a13)
  cases e
  have F_Whole := fun_mk (st := sWhole) l0 c0 k0
  have g_Whole := PySem.W.mg_of X G a0
  have b_Whole := F_Whole.binds (ps := ["thing"]) fun _ _ _ _ _ _ us hl => match us, hl with | [_], _ => rfl
  have F_From := fun_mk (st := sFrom) l1 c1 k1
  have g_From := PySem.W.mg_of X G a1
  have b_From := F_From.binds (ps := ["thing", "low", "high"]) fun _ _ _ _ _ _ us hl => match us, hl with | [_, _, _], _ => rfl
  have F_Kind := fun_mk (st := sKind) l2 c2 k2
  have g_Kind := PySem.W.mg_of X G a2
  have b_Kind := F_Kind.binds (ps := ["house", "thing"]) fun _ _ _ _ _ _ us hl => match us, hl with | [_, _], _ => rfl
  have F_Room := fun_mk (st := sRoom) l3 c3 k3
  have g_Room := PySem.W.mg_of X G a3
  have b_Room := F_Room.binds (ps := ["house", "thing"]) fun _ _ _ _ _ _ us hl => match us, hl with | [_, _], _ => rfl
  have F_IsDeed := fun_mk (st := sIsDeed) l4 c4 k4
  have g_IsDeed := PySem.W.mg_of X G a4
  have b_IsDeed := F_IsDeed.binds (ps := ["house", "thing"]) fun _ _ _ _ _ _ us hl => match us, hl with | [_, _], _ => rfl
  have F_Deck := fun_mk (st := sDeck) l5 c5 k5
  have g_Deck := PySem.W.mg_of X G a5
  have b_Deck := F_Deck.binds (ps := ["_law_script"]) fun _ _ _ _ _ _ us hl => match us, hl with | [_], _ => rfl
  have F_Next := fun_mk (st := sNext) l6 c6 k6
  have g_Next := PySem.W.mg_of X G a6
  have b_Next := F_Next.binds (ps := ["_law_deck_here", "_law_many"]) fun _ _ _ _ _ _ us hl => match us, hl with | [_, _], _ => rfl
  have F_One := fun_mk (st := sOne) l7 c7 k7
  have g_One := PySem.W.mg_of X G a7
  have b_One := F_One.binds (ps := ["_law_deck_here", "_law_some"]) fun _ _ _ _ _ _ us hl => match us, hl with | [_, _], _ => rfl
  have F_LWhole := fun_mk (st := sLWhole) l8 c8 k8
  have g_LWhole := PySem.W.mg_of X G a8
  have b_LWhole := F_LWhole.binds (ps := ["_law_thing"]) fun _ _ _ _ _ _ us hl => match us, hl with | [_], _ => rfl
  have F_House := fun_mk (st := sHouse) l9 c9 k9
  have g_House := PySem.W.mg_of X G a9
  have b_House := F_House.binds (ps := ["_law_deck_here", "_law_rooms", "_law_kinds"]) fun _ _ _ _ _ _ us hl => match us, hl with | [_, _, _], _ => rfl
  have F_Odd := fun_mk (st := sOdd) l10 c10 k10
  have g_Odd := PySem.W.mg_of X G a10
  have b_Odd := F_Odd.binds (ps := ["_law_deck_here"]) fun _ _ _ _ _ _ us hl => match us, hl with | [_], _ => rfl
  have F_Bent := fun_mk (st := sBent) l11 c11 k11
  have g_Bent := PySem.W.mg_of X G a11
  have b_Bent := F_Bent.binds (ps := ["_law_deck_here", "_law_thing", "_law_deep"]) fun _ _ _ _ _ _ us hl => match us, hl with | [_, _, _], _ => rfl
  have F_LIsDeed := fun_mk (st := sLIsDeed) l12 c12 k12
  have g_LIsDeed := PySem.W.mg_of X G a12
  have b_LIsDeed := F_LIsDeed.binds (ps := ["_law_house_here", "_law_thing"]) fun _ _ _ _ _ _ us hl => match us, hl with | [_, _], _ => rfl
  have F_Law := fun_mk (st := sLaw) l13 c13 k13
  have g_Law := PySem.W.mg_of X G a13
  have m_abs := PySem.W.mg_none_of X G z_abs
  have m_len := PySem.W.mg_none_of X G z_len
  have m_isinstance := PySem.W.mg_none_of X G z_isinstance
  have m_int := PySem.W.mg_none_of X G z_int
  have m_bool := PySem.W.mg_none_of X G z_bool
  have m_tuple := PySem.W.mg_none_of X G z_tuple
  have m_list := PySem.W.mg_none_of X G z_list
  have m_str := PySem.W.mg_none_of X G z_str
  have m_range := PySem.W.mg_none_of X G z_range
  have m_repr := PySem.W.mg_none_of X G z_repr
  refine ⟨PySem.W.fnOf "law" "law" (defArgs sLaw) (defBody sLaw) (defScope sLaw) .none kv13 dc13 pm13 an13 cd13 ct13, fun s v => .of_eq rfl, fun base _ _ => ?_⟩
  · have C_Next := Callee.mk' (P := l.prog) (w := w) (base := base) F_Next g_Next b_Next (ok_next (k := 0) F_Next m_len)
    have C_Deck := Callee.mk' (P := l.prog) (w := w) (base := base) F_Deck g_Deck b_Deck (ok_deck (k := 0) F_Deck m_len m_abs)
    have C_One := Callee.mk' (P := l.prog) (w := w) (base := base) F_One g_One b_One (ok_one (k := 1) F_One m_len C_Next (by decide))
    have C_House := Callee.mk' (P := l.prog) (w := w) (base := base) F_House g_House b_House (ok_house (k := 2) F_House m_range m_tuple (C_Next.mono (by decide)) C_One (by decide))
    have C_Odd := Callee.mk' (P := l.prog) (w := w) (base := base) F_Odd g_Odd b_Odd (ok_odd (k := 1) F_Odd m_len C_Next (by decide))
    have C_Whole := Callee.mk' (P := l.prog) (w := w) (base := base) F_Whole g_Whole b_Whole (ok_whole (k := 0) F_Whole m_isinstance m_int m_bool)
    have C_LWhole := Callee.mk' (P := l.prog) (w := w) (base := base) F_LWhole g_LWhole b_LWhole (ok_lwhole (k := 0) F_LWhole m_isinstance m_int m_bool)
    have C_From := Callee.mk' (P := l.prog) (w := w) (base := base) F_From g_From b_From (ok_from (k := 1) F_From C_Whole (by decide))
    have C_Kind := Callee.mk' (P := l.prog) (w := w) (base := base) F_Kind g_Kind b_Kind (ok_kind (k := 2) F_Kind C_From (by decide))
    have C_Room := Callee.mk' (P := l.prog) (w := w) (base := base) F_Room g_Room b_Room (ok_room (k := 2) F_Room m_len C_From (by decide))
    have C_IsDeed := Callee.mk' (P := l.prog) (w := w) (base := base) F_IsDeed g_IsDeed b_IsDeed (ok_isdeed (k := 3) F_IsDeed m_len m_isinstance m_tuple C_Kind C_Room (by decide))
    have C_LIsDeed := Callee.mk' (P := l.prog) (w := w) (base := base) F_LIsDeed g_LIsDeed b_LIsDeed (ok_lisdeed (k := 1) F_LIsDeed m_len m_isinstance m_tuple C_LWhole (by decide))
    have C_Bent0 := Callee.mk' (P := l.prog) (w := w) (base := base) F_Bent g_Bent b_Bent (no_bent (k := 2))
    have C_Bent1 := Callee.mk' (P := l.prog) (w := w) (base := base) F_Bent g_Bent b_Bent (ok_bent (k := 2) (j := 2) 0 (by decide) F_Bent m_len m_isinstance m_tuple m_list m_int m_str (C_Next.mono (by decide)) C_Odd C_Bent0 (by decide))
    have C_Bent2 := Callee.mk' (P := l.prog) (w := w) (base := base) F_Bent g_Bent b_Bent (ok_bent (k := 3) (j := 3) 1 (by decide) F_Bent m_len m_isinstance m_tuple m_list m_int m_str (C_Next.mono (by decide)) (C_Odd.mono (by decide)) C_Bent1 (by decide))
    exact ok_law (k := 4) F_Law m_range m_len m_list m_repr (C_Deck.mono (by decide)) (C_Next.mono (by decide)) (C_House.mono (by decide)) (C_Odd.mono (by decide)) C_Bent2 C_IsDeed (C_LIsDeed.mono (by decide))
end Fr
open PySem PySem.W PyProof.Rows
set_option maxHeartbeats 0 in
theorem PySem.Challenge.cw_fullrooms_k04_deeds_or_not_holds : PySem.Challenge.rw_fullrooms_k04_deeds_or_not.Holds := by
  w_on; o_law; k_head; (case hw => w_witness2)
  k_fill
  refine Fr.walkG (l := PySem.Challenge.rw_fullrooms_k04_deeds_or_not) (n := 63) (k := 5) (x := "_law_script") (sp := fun w => Fr.spLaw _) rfl (by decide) rfl
    ⟨rfl, by decide, by decide⟩ (fun w h Y => PySem.W.kIn_of Y) ?F (fun _ _ a ns hl _ hS => ⟨a, ns, rfl, hS, hl, fun _ => rfl⟩)
  case F =>
    intro w mg fa h KX G hmg
    refine' Fr.all_mk KX G hmg ?a0 ?l0 ?c0 ?k0 ?a1 ?l1 ?c1 ?k1 ?a2 ?l2 ?c2 ?k2 ?a3 ?l3 ?c3 ?k3 ?a4 ?l4 ?c4 ?k4 ?a5 ?l5 ?c5 ?k5 ?a6 ?l6 ?c6 ?k6 ?a7 ?l7 ?c7 ?k7 ?a8 ?l8 ?c8 ?k8 ?a9 ?l9 ?c9 ?k9 ?a10 ?l10 ?c10 ?k10 ?a11 ?l11 ?c11 ?k11 ?a12 ?l12 ?c12 ?k12 ?a13 ?l13 ?c13 ?k13 ?z_abs ?z_len ?z_isinstance ?z_int ?z_bool ?z_tuple ?z_list ?z_str ?z_range ?z_repr
    (case a0 => k_is); (case l0 => k_is); (case c0 => k_is); (case k0 => k_is); (case a1 => k_is); (case l1 => k_is); (case c1 => k_is); (case k1 => k_is); (case a2 => k_is); (case l2 => k_is); (case c2 => k_is); (case k2 => k_is); (case a3 => k_is); (case l3 => k_is); (case c3 => k_is); (case k3 => k_is); (case a4 => k_is); (case l4 => k_is); (case c4 => k_is); (case k4 => k_is); (case a5 => k_is); (case l5 => k_is); (case c5 => k_is); (case k5 => k_is); (case a6 => k_is); (case l6 => k_is); (case c6 => k_is); (case k6 => k_is); (case a7 => k_is); (case l7 => k_is); (case c7 => k_is); (case k7 => k_is); (case a8 => k_is); (case l8 => k_is); (case c8 => k_is); (case k8 => k_is); (case a9 => k_is); (case l9 => k_is); (case c9 => k_is); (case k9 => k_is); (case a10 => k_is); (case l10 => k_is); (case c10 => k_is); (case k10 => k_is); (case a11 => k_is); (case l11 => k_is); (case c11 => k_is); (case k11 => k_is); (case a12 => k_is); (case l12 => k_is); (case c12 => k_is); (case k12 => k_is); (case a13 => k_is); (case l13 => k_is); (case c13 => k_is); (case k13 => k_is); (case z_abs => k_is); (case z_len => k_is); (case z_isinstance => k_is); (case z_int => k_is); (case z_bool => k_is); (case z_tuple => k_is); (case z_list => k_is); (case z_str => k_is); (case z_range => k_is); (case z_repr => k_is)
