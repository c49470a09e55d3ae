import PyProof.Rows.All
import Wide.All
import OpenK.AllK
import Wide.FinOn
import HandS.ForMost
import HandS.Wide
import HandS.IsInst
import HandS.TupAny
import HandS.EndBits
import HandS.Style
import PyProof.StrLawsRepr
import HandS.TupMul
import HandS.Zip
import HandS.Walk
import PyProof.WalksMore
import KE.GoesMore
import PySem.Challenge.RW_fullrooms_k10_what_is_amiss
set_option Elab.async false
set_option linter.all false
set_option maxRecDepth 100000
namespace Fr
open PySem PySem.Spec PyProof.Rows L2

/-! a def's promise while nothing is being shown further out -/
structure FnG (P : Program) (w : World) (K : PySem.W.Frag) (mg : Str → Option Value)
    (base : Heap) (k : Nat) (f : Addr) (fd : FuncData) (ps : List Str) (sp : Sp) : Prop where
  len : ∀ vs H Q E, sp vs H Q E → vs.length = ps.length
  run : ∀ (B : Around) (fs : List Env) (st : Shared) (H : Hp) (ar : Args) (us : List Value)
    (vs : List V) (Q : VK) (E : XK), B.guards = some [] → Room k B →
    Env0 P w K mg base B fs st H → BindsTo st fd ar (ps.zip us) → Vals vs us → sp vs H Q E →
    codeAny (model P w) B (.call (.ref f) ar) (CR CX0 fs P w H st Q E) st

section
variable {P : Program} {w : World} {K : PySem.W.Frag} {mg : Str → Option Value} {base : Heap}
theorem okG {x qual : Str} {st : Stmt} {f : Addr} {fd : FuncData} {N ps : List Str} {k : Nat} {sp : Sp}
    (F : Fun K x qual st f fd) (S : FnScope N ps (defScope st))
    (ln : ∀ vs H Q E, sp vs H Q E → vs.length = ps.length)
    (bd : ∀ (cdv : Value) (B : Around) (fs : List Env) (s0 : Shared) (H : Hp) (vs : List V) (Q : VK) (E : XK),
      B.guards = some [] → Room k (B.deeper (envOfC qual (defScope st) s0.heap.objs.size f cdv)) → sp vs H Q E →
      ∃ t, PSs (cxOf CX0 P w K mg base N qual (defScope st) f cdv B fs s0 H E).nox (defBody st) t ∧
        t { nx := fun _ H' => Q .non H', rt := Q } (start N vs) H) : FnG P w K mg base (k + 1) f fd ps sp := by
  obtain ⟨oc, od, kV, doc, pm, an, cdv, ct, osl, rfl, lk, hcd⟩ := F.ex
  refine ⟨ln, fun B fs s0 H ar us vs Q E gd hr e0 hb r hsp => ?_⟩
  have inh : K.In s0.heap := e0.mod.kin.keeps fun b o e => (e0.bs b o e).1
  have kinds : ∀ y ∈ ps.zip us, (defScope st).names.lookup y.1 = some .local ∨
      ((defScope st).names.lookup y.1 = some .cell ∧
        ((cellsFrom (s0.heap.objs.size + 1) (defScope st).names []).lookup y.1).isSome = true) := by
    rintro ⟨n, v⟩ hy
    exact (S.par n (List.of_mem_zip hy).1).imp id fun q => ⟨q, PySem.W.cellsFrom_some _ _ _ (.inl q)⟩
  refine codeAny_call_function hr.depth (inh _ _ lk) rfl S.co S.gen rfl
    (PySem.W.codeRec_of inh hcd) (hb _ _ _ _ ?_)
  refine wpAny_newFunctionEnv_cells S.kind kinds fun env he s1 xx => ?_
  subst he
  refine ⟨(e0.mod.nolimit.keeps fun b o e => (e0.bs b o e).1).keeps xx.toInCall.keep, codeAny_func ?_⟩
  obtain ⟨t, ht, tq⟩ := bd cdv B fs s0 H vs Q E gd (hr.deeper _) hsp
  have II := inv_start (CX := CX0) (E := E) (qual := qual) (f := f) (cd := cdv) S hr.hd e0 (ln _ _ _ _ hsp) r xx
  refine wpAny_mono ((PSs.nox ht).run [] s1 (start N vs) H _ II tq) (fun fl s2 hs => ?_) fun e s2 hs => hs
  match fl, hs with
  | .ret u, ⟨v, _, H', J, rv, q⟩ => exact ⟨v, H', J.os, J.bare, J.base, J.hok, rv, q⟩
  | .next, ⟨_, H', J, q⟩ => exact ⟨V.non, H', J.os, J.bare, J.base, J.hok, rfl, q⟩
  | .brk, ⟨_, _, _, q⟩ => exact q.elim
  | .cont, ⟨_, _, _, q⟩ => exact q.elim
end

section
variable {X : Cx} {k : Nat} {f : Addr} {fd : FuncData} {ps : List Str} {sp : Sp} {E : XK}
  {x : Str} {p pos : Pos} {e : Expr} {es : List Expr} {t : TA}
theorem pe_callG (F : FnG X.prog X.w X.K X.mg X.base k f fd ps sp) (gd : X.A.guards = some [])
    (hr : Room k X.A) (hg : Gl X x) (hm : X.mg x = some (.ref f)) (hk : PySem.W.keepIn X.K (.ref f) = true)
    (hb : Binds X.K fd ps []) (ha : PA X (e :: es) t) (hdb : (x == ("__debug__" : Str)) = false := by decide)
    (he : starEach (e :: es) X.env = (false, eval e X.env) :: starEach es X.env := by rfl)
    (hpl : (backTo pos (starEach es X.env)).any (·.1) = false := by rfl) :
    PE X (.Call (.Name x p) (e :: es) [] pos) (tCall sp [] E0 t) := by
  refine ⟨fun pins s σ H Q I h => wpAny_Call_Name_kw (ld_glob I hg hm ?_ hdb)⟩
  refine PySem.W.callWith_K (h₀ := X.base) I.ok.mod.kin hk
    (thn (ha.run pos pins s σ H _ I h) fun us s1 ⟨vs, H1, I1, r, q⟩ => ⟨I1.kIn, ?_⟩) he hpl
  have q2 : sp vs H1 Q E0 := by
    have q1 : sp (vs ++ []) H1 Q E0 := q
    rwa [List.append_nil] at q1
  have hl : us.length = ps.length := by rw [← r.length]; exact F.len _ _ _ _ q2
  have hb1 := hb s1 us I1.kIn (by rw [List.append_nil]; exact hl)
  rw [List.append_nil] at hb1
  refine wpAny_call (codeAny_mono (F.run X.A X.stack s1 H1 ⟨us, []⟩ us vs Q E0 gd hr I1.env0 hb1 r q2) fun rr s2 hq => ?_)
  match rr, hq with
  | .error _, hq => exact (show False from hq).elim
  | .ok (.ret u), hq => exact I1.after hq
end

/-! the end of a law, at the caller's own place -/
theorem law_callG {P : Program} {w : World} {K : PySem.W.Frag} {mg mb : Str → Option Value} {k : Nat} {fa a : Addr}
    {fd : FuncData} {x : Str} {sp : Sp} {s1 : Shared} {vs : List Value} {ns : List Int}
    (KX : K.In s1.heap) (hns : s1.heap.Ns mainGlobals mg) (hb : s1.heap.Ns builtinsNs mb)
    (hbb : ∀ x : Str, x ≠ "__name__" → mb x = bootBuiltins x) (hlim : s1.heap.NoLimit) (hg : s1.gens = #[])
    (ha : s1.heap.get? a = some { cls := .type "list", data := .seq vs.toArray }) (hi : IntsAre vs ns)
    (hl : ns.length ≤ sizeLine) (hr : Room k callerA)
    (F : ∀ base : Heap, K.In base → base.Ns mainGlobals mg → FnG P w K mg base k fa fd [x] sp)
    (hbind : ∀ (s : Shared) (u : Value), BindsTo s fd ⟨[u], []⟩ [(x, u)])
    (hsp : ∀ H : Hp, Only H → SqL K H a (ns.map V.int) → sp [.ref a] H (fun v _ => v = .bl true) E0) :
    codeAny (model P w) callerA (.call (.ref fa) ⟨[.ref a], []⟩)
      (fun r s' => r = .ok (.ret (.bool true)) ∧ OldK s1.heap s'.heap ∧ s'.os = s1.os ∧ AllBare s'.gens) s1 := by
  have main : ∀ H : Hp, Only H → SqL K H a (ns.map V.int) → HOk P w H s1.heap → (∀ b, H b ≠ none → b = a) →
      (∀ b o, K.lookup b = some o → H b = none) → codeAny (model P w) callerA (.call (.ref fa) ⟨[.ref a], []⟩)
      (fun r s' => r = .ok (.ret (.bool true)) ∧ OldK s1.heap s'.heap ∧ s'.os = s1.os ∧ AllBare s'.gens) s1 := by
    intro H only sq hok at_a offK
    have dic : ∀ {b : Addr} {m : Str → Option Value}, s1.heap.Ns b m → (hidT s1.heap H).Ns b m := by
      rintro b m ⟨o, es, ep, e, dd, r⟩
      refine ⟨o, es, ep, hidT_get e ?_, dd, r⟩
      cases q : H b with
      | none => rfl
      | some u =>
        exfalso
        have z := at_a b (by rw [q]; exact Option.some_ne_none _)
        rw [z, ha] at e
        injection e with e
        rw [← e] at dd
        exact nomatch dd
    have kin : K.In (hidT s1.heap H) := fun b o e => hidT_get (KX b o e) (offK b o e)
    obtain ⟨mc, c1, c2⟩ := hlim
    have md : Mod K mg (hidT s1.heap H) := ⟨kin, dic hns, ⟨mb, dic hb, hbb⟩, ⟨mc, dic c1, c2⟩⟩
    have ev : Env0 P w K mg (hidT s1.heap H) callerA [] s1 H :=
      ⟨rfl, md, fun b o e => of_hidT e, Nat.le_of_eq (hidT_size _ _), trivial,
        (fun b q => (List.not_mem_nil (show b ∈ ([] : List Addr) from q)).elim), hok, AllBare.of_eq hg⟩
    have done := (F _ kin (dic hns)).run callerA [] s1 H ⟨[.ref a], []⟩ [.ref a] [.ref a] _ _ rfl hr ev
      (hbind s1 (.ref a)) (.cons rfl .nil) (hsp H only sq)
    refine codeAny_mono done fun r s2 h => ?_
    match r, h with
    | .error _, h => exact (show False from h).elim
    | .ok (.ret u), ⟨v, H', os, bare, un, hok', rv, q⟩ =>
      have q' : v = .bl true := q
      subst q'
      have hu : u = Value.bool true := rv
      subst hu
      refine ⟨rfl, OldK.of_keep fun b o e => ?_, os, bare⟩
      rcases only b with z | ⟨ob, xs, z⟩
      · exact un.keep b o e z (fun z => (List.not_mem_nil (show b ∈ ([] : List Addr) from z)).elim) (List.not_mem_nil)
      · have e1 := (hok b _ z).1
        have e2 := (hok' b _ (un.frzs b ob _ z)).1
        rw [e] at e1
        injection e1 with e1
        rw [e1]
        exact e2
  have rv := vals_ints hi
  have lenV := hi.length
  by_cases hk : ∃ o, K.lookup a = some o
  · obtain ⟨o, hk⟩ := hk
    have e := KX a o hk
    rw [ha] at e
    injection e with e
    subst e
    refine main (fun _ => none) (fun _ => .inl rfl) (.inr ⟨_, vs.toArray, _, hk, rfl, rfl, rfl, ?_, ?_⟩) (fun b u z => nomatch z)
      (fun b z => absurd rfl z) fun b o _ => rfl
    · rw [List.size_toArray, lenV]
      exact hl
    · simpa using rv
  · have em : (upd (fun _ => none) a (.frz { cls := .type "list", data := .seq vs.toArray } (.lst (ns.map V.int)))) a = _ := upd_same
    refine main (upd (fun _ => none) a (.frz { cls := .type "list", data := .seq vs.toArray } (.lst (ns.map V.int)))) (fun b => ?_)
      (.inl (.inr ⟨_, em⟩)) (fun b u z => ?_) (fun b z => ?_) fun b o z => ?_
    · by_cases q : b = a
      · exact .inr ⟨_, _, by rw [q]; exact em⟩
      · exact .inl (by rw [upd_ne q])
    · by_cases q : b = a
      · subst q
        rw [em] at z
        injection z with z
        subst z
        exact ⟨ha, by rw [List.length_map]; exact hl, vs, _, rv, ha⟩
      · rw [upd_ne q] at z
        cases z
    · by_cases q : b = a
      · exact q
      · rw [upd_ne q] at z
        exact absurd rfl z
    · by_cases q : b = a
      · exact absurd ⟨o, q ▸ z⟩ hk
      · rw [upd_ne q]

theorem walkG {l : PySem.W.OpenLaw} {n k : Nat} {q : Program} {loose : List Str}
    {XP : (Str → Option Value) → Heap → Prop} {YP : World → Heap → Prop} {d : DefRec} {K : Params → PySem.W.Frag}
    {sp : World → Sp} {x : Str} (hn : l.most = some n) (hn2 : n ≤ sizeLine) (hdf : d.params.defaults = [])
    (hr : Room k callerA) (hY : ∀ (w : World) (h : Heap), YP w h → (K w.params).In h)
    (F : ∀ (w : World) (mg : Str → Option Value) (fa : Addr) (h : Heap), (K w.params).In h → h.Ns mainGlobals mg →
      mg d.name = some (.ref fa) → ∃ fd : FuncData, (∀ (s : Shared) (u : Value), BindsTo s fd ⟨[u], []⟩ [(x, u)]) ∧
        ∀ base : Heap, (K w.params).In base → base.Ns mainGlobals mg → FnG l.prog w (K w.params) mg base k fa fd [x] (sp w))
    (hsp : ∀ (w : World) (H : Hp) (a : Addr) (ns : List Int), ns.length ≤ n → Only H →
      SqL (K w.params) H a (ns.map V.int) → sp w [.ref a] H (fun v _ => v = .bl true) E0) :
    PySem.W.WalkO q loose XP YP l.row.toRowW d [] (fun f vs => PySem.call f vs) := by
  refine Att.attach_call hn hdf fun w s0 s1 mg mb fa o pm cd doc a vs ns G Y ho hd hcd hmg hobj hints hlen hg => ?_
  obtain ⟨fd, hb, hF⟩ := F w mg fa _ (hY w _ Y) G.T.g hmg
  exact law_callG (hY w _ Y) G.T.g G.T.b G.T.builtins G.T.nolimit hg hobj hints (Nat.le_trans hlen hn2) hr hF hb
    fun H hO hS => hsp w H a ns hlen hO hS
end Fr

set_option Elab.async false
set_option linter.all false
set_option maxRecDepth 100000
namespace Fr
open PySem PySem.Spec PyProof.Rows L2

/-! the deck: a list at d of two lists (at a, at b.b) and a count; b.l: a list of the caller's own beside it, if any -/
structure Sd where
  b : Addr
  l : Option Addr
def Ow (d a : Addr) (b : Sd) (x : Addr) : Prop := x = d ∨ x = a ∨ x = b.b
def Own (d a : Addr) (b : Sd) (x : Addr) : Prop := Ow d a b x ∨ b.l = some x
theorem off {d a : Addr} {b : Sd} {x : Addr} (h : ¬ Own d a b x) : ¬ Ow d a b x := fun z => h (.inl z)
/-- all but the deck is as it was -/
structure Kp (d a : Addr) (b : Sd) (H H' : Hp) : Prop where
  run : ∀ x o, H x = some o → ¬ Ow d a b x → H' x = some o
instance {d a : Addr} {b : Sd} {H H' : Hp} : CoeFun (Kp d a b H H') (fun _ => ∀ x o, H x = some o → ¬ Own d a b x → H' x = some o) := ⟨fun k x o h n => k.run x o h (off n)⟩
theorem Kp.refl {d a : Addr} {b : Sd} {H : Hp} : Kp d a b H H := ⟨fun _ _ h _ => h⟩
theorem Kp.trans {d a : Addr} {b : Sd} {H H1 H2 : Hp} (p : Kp d a b H H1) (q : Kp d a b H1 H2) : Kp d a b H H2 :=
  ⟨fun x o h n => q.run x o (p.run x o h n) n⟩
theorem Kp.of {d a : Addr} {b : Sd} {H H1 : Hp} (p : Same H H1) : Kp d a b H H1 := ⟨fun x o h _ => p x o h⟩
theorem same_new {H : Hp} {p : Addr} {o : HO} (n : H p = none) : Same H (upd H p o) := fun b x e => by
  rw [upd_ne (ne_of_none e n)]
  exact e
theorem Kp.new {d a : Addr} {b : Sd} {p : Addr} {H : Hp} {o : HO} (n : H p = none) : Kp d a b H (upd H p o) := Kp.of (same_new n)

structure Deck (d a : Addr) (b : Sd) (H : Hp) (c : Nat) : Prop where
  ex : ∃ (big cells : List Int) (n : Int), H d = some (.lst [.ref a, .ref b.b, .int n]) ∧ H a = some (.lst (big.map V.int)) ∧
    H b.b = some (.lst (cells.map V.int)) ∧ big.length ≤ 63 ∧ (∀ z ∈ big, 0 ≤ z) ∧ 0 < cells.length ∧ cells.length ≤ 64 ∧
    (∀ z ∈ cells, 0 ≤ z) ∧ 0 ≤ n ∧ n ≤ (c : Int)
  ne : a ≠ b.b
  sd : ∀ y, b.l = some y → ∃ o, H y = some o
theorem map_no {l : List Int} {x y z : V} {p : Addr} (hx : x = .ref p) (h : l.map V.int = [x, y, z]) : False := by
  cases l with
  | nil => cases h
  | cons i r =>
    injection h with h1 h2
    rw [hx] at h1
    cases h1
section
variable {d a p : Addr} {b : Sd} {H H' : Hp} {c : Nat}
theorem Deck.da (D : Deck d a b H c) : d ≠ a := by
  obtain ⟨big, cells, n, h1, h2, h3, _⟩ := D.ex
  exact ne_of h1 h2 fun e => by
    injection e with e
    exact map_no rfl e.symm
theorem Deck.db (D : Deck d a b H c) : d ≠ b.b := by
  obtain ⟨big, cells, n, h1, h2, h3, _⟩ := D.ex
  exact ne_of h1 h3 fun e => by
    injection e with e
    exact map_no rfl e.symm
theorem Deck.fresh (D : Deck d a b H c) (h : H p = none) : ¬ Own d a b p := by
  obtain ⟨big, cells, n, h1, h2, h3, _⟩ := D.ex
  rintro ((z | z | z) | z)
  · rw [← z, h] at h1; cases h1
  · rw [← z, h] at h2; cases h2
  · rw [← z, h] at h3; cases h3
  · obtain ⟨o, e⟩ := D.sd p z
    rw [h] at e; cases e
theorem Deck.put (D : Deck d a b H c) (h : ¬ Ow d a b p) {o : HO} : Deck d a b (upd H p o) c := by
  obtain ⟨big, cells, n, h1, h2, h3, r⟩ := D.ex
  refine ⟨⟨big, cells, n, ?_, ?_, ?_, r⟩, D.ne, fun y hy => ?_⟩
  · rw [upd_ne fun e => h (.inl e.symm)]; exact h1
  · rw [upd_ne fun e => h (.inr (.inl e.symm))]; exact h2
  · rw [upd_ne fun e => h (.inr (.inr e.symm))]; exact h3
  · by_cases e : y = p
    · exact ⟨o, by rw [e]; exact upd_same⟩
    · rw [upd_ne e]; exact D.sd y hy
theorem Deck.new (D : Deck d a b H c) (h : H p = none) {o : HO} : Deck d a b (upd H p o) c := D.put (off (D.fresh h))
theorem Deck.same (D : Deck d a b H c) (h : Same H H') : Deck d a b H' c := by
  obtain ⟨big, cells, n, h1, h2, h3, r⟩ := D.ex
  exact ⟨⟨big, cells, n, h _ _ h1, h _ _ h2, h _ _ h3, r⟩, D.ne, fun y hy => let ⟨o, e⟩ := D.sd y hy; ⟨o, h _ _ e⟩⟩
theorem Deck.mono (D : Deck d a b H c) {c' : Nat} (h : c ≤ c') : Deck d a b H c' := by
  obtain ⟨big, cells, n, h1, h2, h3, q1, q2, q3, q4, q5, q6, q7⟩ := D.ex
  exact ⟨⟨big, cells, n, h1, h2, h3, q1, q2, q3, q4, q5, q6, by omega⟩, D.ne, D.sd⟩
/-- a list of one's own beside the deck -/
theorem Deck.side (D : Deck d a b H c) {o : HO} (h : H p = some o) : Deck d a ⟨b.b, some p⟩ H c :=
  ⟨D.ex, D.ne, fun y hy => ⟨o, by rw [← Option.some.inj hy]; exact h⟩⟩
theorem Deck.unside (D : Deck d a ⟨b.b, some p⟩ H c) (hb : b.l = none) : Deck d a b H c := ⟨D.ex, D.ne, fun y hy => by rw [hb] at hy; cases hy⟩
theorem Deck.bare (D : Deck d a b H c) : Deck d a ⟨b.b, none⟩ H c := ⟨D.ex, D.ne, fun y hy => nomatch hy⟩
end

theorem side_no {d a p y : Addr} {b : Sd} {H : Hp} {o : HO} (hy : H y = none) (h : H p = some o) (n : ¬ Own d a b p) : ¬ Own d a ⟨b.b, some y⟩ p := by
  rintro (z | z)
  · exact n (.inl z)
  · have e : y = p := Option.some.inj z
    rw [e, h] at hy
    cases hy
/-! things: data that stand apart from the deck -/
mutual
inductive Dt (d a : Addr) (b : Sd) (H : Hp) : V → PyData → Prop
  | non : Dt d a b H .non .none
  | bl (k : Bool) : Dt d a b H (.bl k) (.bool k)
  | int (i : Int) : Dt d a b H (.int i) (.int i)
  | str (x : Str) : Dt d a b H (.str x) (.str x)
  | lst {p : Addr} {xs : List V} {ds : List PyData} : H p = some (.lst xs) → ¬ Own d a b p → DtAll d a b H xs ds → Dt d a b H (.ref p) (.list ds)
  | tup {p : Addr} {xs : List V} {ds : List PyData} : H p = some (.tup xs) → ¬ Own d a b p → DtAll d a b H xs ds → Dt d a b H (.ref p) (.tuple ds)
  | dct {p : Addr} : H p = some (.dK []) → ¬ Own d a b p → Dt d a b H (.ref p) (.dict [])
inductive DtAll (d a : Addr) (b : Sd) (H : Hp) : List V → List PyData → Prop
  | nil : DtAll d a b H [] []
  | cons {v : V} {vs : List V} {x : PyData} {xs : List PyData} : Dt d a b H v x → DtAll d a b H vs xs → DtAll d a b H (v :: vs) (x :: xs)
end
section
variable {d a : Addr} {b : Sd} {H H' : Hp}
mutual
theorem Dt.keepO (k : ∀ x o, H x = some o → ¬ Own d a b x → H' x = some o) : ∀ (x : PyData) (v : V), Dt d a b H v x → Dt d a b H' v x
  | .none, _, .non => .non
  | .bool _, _, .bl _ => .bl _
  | .int _, _, .int _ => .int _
  | .str _, _, .str _ => .str _
  | .list _, _, .lst h n r => .lst (k _ _ h n) n (DtAll.keepO k _ _ r)
  | .tuple _, _, .tup h n r => .tup (k _ _ h n) n (DtAll.keepO k _ _ r)
  | .dict _, _, .dct h n => .dct (k _ _ h n) n
theorem DtAll.keepO (k : ∀ x o, H x = some o → ¬ Own d a b x → H' x = some o) : ∀ (xs : List PyData) (vs : List V), DtAll d a b H vs xs → DtAll d a b H' vs xs
  | [], _, .nil => .nil
  | _ :: _, _, .cons h r => .cons (Dt.keepO k _ _ h) (DtAll.keepO k _ _ r)
end
theorem Dt.keep (k : Kp d a b H H') (x : PyData) (v : V) (h : Dt d a b H v x) : Dt d a b H' v x := Dt.keepO (fun y o e n => k y o e n) x v h
theorem DtAll.keep (k : Kp d a b H H') (x : List PyData) (v : List V) (h : DtAll d a b H v x) : DtAll d a b H' v x := DtAll.keepO (fun y o e n => k y o e n) x v h
mutual
theorem Dt.side {y : Addr} (hb : b.l = none) (hy : H y = none) : ∀ (x : PyData) (v : V), Dt d a b H v x → Dt d a ⟨b.b, some y⟩ H v x
  | .none, _, .non => .non
  | .bool _, _, .bl _ => .bl _
  | .int _, _, .int _ => .int _
  | .str _, _, .str _ => .str _
  | .list _, _, .lst h n r => .lst h (side_no hy h n) (DtAll.side hb hy _ _ r)
  | .tuple _, _, .tup h n r => .tup h (side_no hy h n) (DtAll.side hb hy _ _ r)
  | .dict _, _, .dct h n => .dct h (side_no hy h n)
theorem DtAll.side {y : Addr} (hb : b.l = none) (hy : H y = none) : ∀ (xs : List PyData) (vs : List V), DtAll d a b H vs xs → DtAll d a ⟨b.b, some y⟩ H vs xs
  | [], _, .nil => .nil
  | _ :: _, _, .cons h r => .cons (Dt.side hb hy _ _ h) (DtAll.side hb hy _ _ r)
end
theorem DtAll.length : ∀ {vs : List V} {xs : List PyData}, DtAll d a b H vs xs → vs.length = xs.length
  | _, _, .nil => rfl
  | _, _, .cons _ r => by rw [List.length_cons, List.length_cons, DtAll.length r]
theorem DtAll.get : ∀ {vs : List V} {xs : List PyData} {i : Nat} {v : V}, DtAll d a b H vs xs → vs[i]? = some v → ∃ x, xs[i]? = some x ∧ Dt d a b H v x
  | _, _, _, _, .nil, e => by simp at e
  | _, _, 0, _, .cons h _, e => by
    simp at e
    subst e
    exact ⟨_, rfl, h⟩
  | _, _, i + 1, v, .cons _ r, e => by
    obtain ⟨x, h1, h2⟩ := DtAll.get (i := i) (v := v) r (by simpa using e)
    exact ⟨x, by simpa using h1, h2⟩
theorem DtAll.append : ∀ {vs ws : List V} {xs ys : List PyData}, DtAll d a b H vs xs → DtAll d a b H ws ys → DtAll d a b H (vs ++ ws) (xs ++ ys)
  | _, _, _, _, .nil, s => s
  | _, _, _, _, .cons h r, s => .cons h (DtAll.append r s)
theorem DtAll.ints : ∀ (l : List Int), DtAll d a b H (l.map V.int) (l.map PyData.int)
  | [] => .nil
  | _ :: l => .cons (.int _) (DtAll.ints l)
end

/-! a list stands somewhere within -/
mutual
def hasL : PyData → Bool
  | .list _ => true
  | .tuple xs => hasLAll xs
  | _ => false
def hasLAll : List PyData → Bool
  | [] => false
  | x :: xs => hasL x || hasLAll xs
end
section
variable {X : Cx} {pins : List (Addr × Obj)} {σ : L2.St} {H : Hp} {s : Shared} {d a : Addr} {b : Sd}
mutual
theorem Dt.reads (I : Inv X pins σ H s) :
    ∀ (x : PyData) (v : V) (u : Value), Dt d a b H v x → RelV v u → ∃ as, Reads s.heap u x as ∧ (hasL x = false → sysModules ∉ as)
  | .none, _, _, .non, r => by
    cases r
    exact ⟨_, Reads.none, fun _ => List.not_mem_nil⟩
  | .bool k, _, _, .bl _, r => by
    cases r
    exact ⟨_, Reads.bool k, fun _ => List.not_mem_nil⟩
  | .int i, _, _, .int _, r => by
    obtain ⟨t, rfl⟩ := r
    exact ⟨_, Reads.int i t, fun _ => List.not_mem_nil⟩
  | .str x, _, _, .str _, r => by
    obtain ⟨t, rfl⟩ := r
    exact ⟨_, Reads.str x t, fun _ => List.not_mem_nil⟩
  | .list ds, _, _, .lst h n q, r => by
    cases r
    obtain ⟨its, rv, ⟨o, m, ho, hc, _, hd⟩, _⟩ := I.list (SqL.of h)
    obtain ⟨as, hr, ha⟩ := Dt.readsAll I ds _ its q rv
    exact ⟨_, Reads.list ho hc hd hr, fun hl => by simp [hasL] at hl⟩
  | .tuple ds, _, _, .tup h n q, r => by
    cases r
    obtain ⟨its, rv, ⟨o, ho, hc, m, hd⟩, _⟩ := I.tuple (SqT.of h)
    obtain ⟨as, hr, ha⟩ := Dt.readsAll I ds _ its q rv
    exact ⟨_, Reads.tuple ho hc hd hr, fun hl => ha (by simpa [hasL] using hl)⟩
  | .dict _, _, _, .dct h n, r => by
    cases r
    obtain ⟨_, hp, vs, kv, o, es, ep, ho, hx, hd, _, hes, _⟩ := dk_of I.hok h
    cases kv
    have e0 : es.toList = [] := by
      generalize es.toList = l at hes
      cases hes
      rfl
    refine ⟨_, Reads.dict (kvs := []) ho hx.1 hd (by rw [e0]; exact ReadsAll.nil) (by rw [e0]; exact ReadsAll.nil), fun _ hm => ?_⟩
    rcases List.mem_cons.mp hm with z | z
    · rw [← z] at hp
      simp at hp
    · simp at z
theorem Dt.readsAll (I : Inv X pins σ H s) :
    ∀ (xs : List PyData) (vs : List V) (us : List Value), DtAll d a b H vs xs → Vals vs us → ∃ as, ReadsAll s.heap us xs as ∧ (hasLAll xs = false → sysModules ∉ as)
  | [], _, _, .nil, r => by
    cases r
    exact ⟨_, ReadsAll.nil, fun _ => List.not_mem_nil⟩
  | x :: xs, _, _, .cons h1 h2, .cons r1 r2 => by
    obtain ⟨as, q1, n1⟩ := Dt.reads I x _ _ h1 r1
    obtain ⟨bs, q2, n2⟩ := Dt.readsAll I xs _ _ h2 r2
    refine ⟨_, ReadsAll.cons q1 q2, fun hl hm => ?_⟩
    have hl2 : hasL x = false ∧ hasLAll xs = false := by simpa [hasLAll] using hl
    exact (List.mem_append.mp hm).elim (n1 hl2.1) (n2 hl2.2)
end
end
end Fr

set_option Elab.async false
set_option linter.all false
set_option maxRecDepth 100000
namespace Fr
open PySem PySem.Spec PyProof.Rows L2
/-! what is shown of a thing -/
def rShow : List V → Hp → VK → Prop := fun xs H Q => ∃ (d a : Addr) (b : Sd) (v : V) (x : PyData), xs = [v] ∧ Dt d a b H v x ∧
  x.showable = true ∧ (x.hasDict = true → hasL x = false) ∧ x.depth ≤ 30 ∧ x.shown.length ≤ sizeLine ∧ Q (.str x.shown) H
theorem call_show {X : Cx} (gd : X.A.guards = some []) (hu : X.A.units + 64 < cLine) : CallR X (.builtin "repr") rShow := by
  intro pins s σ H xs us Q I r h
  obtain ⟨d, a, b, v, x, rfl, ht, hs, hl, hd, hz, q⟩ := h
  obtain ⟨u, rfl, ru⟩ := vals1 r
  obtain ⟨as, hr, hn⟩ := Dt.reads I x v u ht ru
  have byRef : ∀ p : Addr, u = .ref p → wpAny (model X.prog X.w) X.A (call (.builtin "repr") [u]) (EP X pins σ Q) X.xe s := by
    intro p e
    subst e
    refine repr_of_reads' hr hs (fun h => hn (hl h)) gd (by omega) (fun _ _ e => e) (fun h' u' tk hk => ?_) hz
    exact ⟨.str x.shown, H, I.kept hk, ⟨u', rfl⟩, q⟩
  cases ht with
  | non =>
    cases ru
    exact PySem.P.repr_of_none ⟨.str _, H, I.tok _, ⟨_, rfl⟩, q⟩
  | bl k =>
    cases ru
    exact PySem.P.repr_of_bool ⟨.str _, H, I.tok _, ⟨_, rfl⟩, q⟩
  | int i =>
    obtain ⟨t, rfl⟩ := ru
    exact PySem.P.repr_of_int (by simpa [PyData.showable] using hs) ⟨.str _, H, I.tok _, ⟨_, rfl⟩, q⟩
  | str y =>
    obtain ⟨t, rfl⟩ := ru
    exact PySem.P.repr_of_str ⟨.str _, H, I.tok _, ⟨_, rfl⟩, q⟩ hz
  | lst h1 h2 h3 => exact byRef _ ru
  | tup h1 h2 h3 => exact byRef _ ru
  | dct h1 h2 => exact byRef _ ru

/-! sizes of texts -/
def lens : List Str → Nat
  | [] => 0
  | t :: r => t.length + 2 + lens r
theorem textFrom_most : ∀ (ts : List Str) (k : Nat) (acc : Str), (textFrom k acc ts).length ≤ acc.length + lens ts
  | [], k, acc => by
    show acc.length ≤ acc.length + 0
    omega
  | t :: r, k, acc => by
    have ih := textFrom_most r (k + 1) (acc ++ (if k > 0 then ", " else "" : String) ++ t)
    have e : (acc ++ ((if k > 0 then ", " else "" : String) : Str) ++ t).length ≤ acc.length + 2 + t.length := by
      rw [strLen_append, strLen_append]
      have : (((if k > 0 then ", " else "" : String) : Str)).length ≤ 2 := by split <;> decide
      omega
    show (textFrom (k + 1) (acc ++ (if k > 0 then ", " else "" : String) ++ t) r).length ≤ acc.length + (t.length + 2 + lens r)
    omega
theorem listText_most (ts : List Str) : (listText ts).length ≤ lens ts + 2 := by
  unfold listText
  rw [strLen_append]
  have h := textFrom_most ts 0 (("[" : String) : Str)
  have e1 : ((("[" : String) : Str)).length = 1 := rfl
  have e2 : ((("]" : String) : Str)).length = 1 := rfl
  omega
theorem join_most : ∀ ts : List Str, (Str.join ", " ts).length ≤ lens ts
  | [] => Nat.zero_le _
  | x :: r => by
    have h := join_length_add (x :: r) (by simp)
    have e : ∀ l : List Str, piled l = lens l := by
      intro l
      induction l with
      | nil => rfl
      | cons y l ih =>
        simp only [piled, lens, List.map_cons, List.sum_cons] at ih ⊢
        omega
    rw [e] at h
    omega
theorem tupleText_most (ts : List Str) : (tupleText ts).length ≤ lens ts + 3 := by
  unfold tupleText
  rw [strLen_append, strLen_append]
  have h := join_most ts
  have e1 : ((("(" : String) : Str)).length = 1 := rfl
  have e2 : (((if ts.length == 1 then ",)" else ")" : String) : Str)).length ≤ 2 := by split <;> decide
  omega
/-! fit to be shown, in at most n signs, at most k deep -/
structure Gd (x : PyData) (n k : Nat) : Prop where
  sh : x.showable = true
  dl : x.hasDict = true → hasL x = false
  dp : x.depth ≤ k
  ln : x.shown.length ≤ n
structure GdAll (xs : List PyData) (n k : Nat) : Prop where
  sh : PyData.showableAll xs = true
  dl : PyData.hasDictAll xs = true → hasLAll xs = false
  nd : PyData.hasDictAll xs = false ∨ hasLAll xs = false
  dp : PyData.depthAll xs ≤ k
  ln : lens (PyData.shownAll xs) ≤ n
theorem Gd.mono {x : PyData} {n k n' k' : Nat} (h : Gd x n k) (hn : n ≤ n') (hk : k ≤ k') : Gd x n' k' := ⟨h.sh, h.dl, by have := h.dp; omega, by have := h.ln; omega⟩
theorem gd_non : Gd .none 4 0 := ⟨by simp [PyData.showable], by simp [PyData.hasDict], by simp [PyData.depth], by simp only [PyData.shown]; decide⟩
theorem gd_bl (b : Bool) : Gd (.bool b) 5 0 := ⟨by simp [PyData.showable], by simp [PyData.hasDict], by simp [PyData.depth], by simp only [PyData.shown]; cases b <;> decide⟩
theorem gd_int {i : Int} (h : i.natAbs < 10 ^ 60) : Gd (.int i) 61 0 := by
  refine ⟨?_, by simp [PyData.hasDict], by simp [PyData.depth], ?_⟩
  · simp only [PyData.showable, decide_eq_true_eq]
    exact PySem.Flt.log2_lt_of (by decide) (Nat.lt_trans h (by decide +kernel))
  · simp only [PyData.shown]
    rw [PySem.ofString_length]
    exact int_text_length_le10 (by decide) h
theorem gd_str {x : Str} {n : Nat} (h : (reprText x).length ≤ n) : Gd (.str x) n 0 := ⟨by simp [PyData.showable], by simp [PyData.hasDict], by simp [PyData.depth], by simp only [PyData.shown]; exact h⟩
theorem gd_dct : Gd (.dict []) 2 1 := ⟨by simp [PyData.showable, PyData.showableKv], by simp [hasL], by simp [PyData.depth, PyData.depthKv], by simp only [PyData.shown, PyData.shownKv]; decide⟩
theorem gd_tup {xs : List PyData} {n k : Nat} (h : GdAll xs n k) : Gd (.tuple xs) (n + 3) (k + 1) := by
  refine ⟨by simpa [PyData.showable] using h.sh, fun q => ?_, by simp only [PyData.depth]; have := h.dp; omega, ?_⟩
  · simp only [hasL]
    exact h.dl (by simpa [PyData.hasDict] using q)
  · simp only [PyData.shown]
    exact Nat.le_trans (tupleText_most _) (by have := h.ln; omega)
theorem gd_lst {xs : List PyData} {n k : Nat} (h : GdAll xs n k) (hd : PyData.hasDictAll xs = false) : Gd (.list xs) (n + 2) (k + 1) := by
  refine ⟨by simpa [PyData.showable] using h.sh, fun q => ?_, by simp only [PyData.depth]; have := h.dp; omega, ?_⟩
  · rw [PyData.hasDict, hd] at q
    cases q
  · simp only [PyData.shown]
    exact Nat.le_trans (listText_most _) (by have := h.ln; omega)
/-- plain: neither a list nor a dict within -/
structure Pl (x : PyData) : Prop where
  l : hasL x = false
  d : x.hasDict = false
structure PlAll (xs : List PyData) : Prop where
  l : hasLAll xs = false
  d : PyData.hasDictAll xs = false
theorem pl_int (i : Int) : Pl (.int i) := ⟨by simp [hasL], by simp [PyData.hasDict]⟩
theorem pl_tup {xs : List PyData} (h : PlAll xs) : Pl (.tuple xs) := ⟨by simpa [hasL] using h.l, by simpa [PyData.hasDict] using h.d⟩
theorem gdall_nil : GdAll [] 0 0 := ⟨by simp [PyData.showableAll], by simp [PyData.hasDictAll], .inl (by simp [PyData.hasDictAll]), by simp [PyData.depthAll], by simp [PyData.shownAll, lens]⟩
theorem plall_nil : PlAll [] := ⟨by simp [hasLAll], by simp [PyData.hasDictAll]⟩
theorem plall_cons {x : PyData} {xs : List PyData} (h : Pl x) (hs : PlAll xs) : PlAll (x :: xs) := ⟨by simp [hasLAll, h.l, hs.l], by simp [PyData.hasDictAll, h.d, hs.d]⟩
/-- one of the two is plain -/
theorem gdall_cons {x : PyData} {xs : List PyData} {n k m : Nat} (h : Gd x n k) (hs : GdAll xs m k) (p : Pl x ∨ PlAll xs) : GdAll (x :: xs) (n + 2 + m) k := by
  refine ⟨by simp [PyData.showableAll, h.sh, hs.sh], fun q => ?_, ?_, by simp only [PyData.depthAll]; exact Nat.max_le.mpr ⟨h.dp, hs.dp⟩, ?_⟩
  · simp only [PyData.hasDictAll, Bool.or_eq_true] at q
    simp only [hasLAll, Bool.or_eq_false_iff]
    rcases p with p | p
    · rcases q with q | q
      · rw [p.d] at q; cases q
      · exact ⟨p.l, hs.dl q⟩
    · rcases q with q | q
      · exact ⟨h.dl q, p.l⟩
      · rw [p.d] at q; cases q
  · rcases p with p | p
    · rcases hs.nd with q | q
      · exact .inl (by simp [PyData.hasDictAll, p.d, q])
      · exact .inr (by simp [hasLAll, p.l, q])
    · cases q : x.hasDict with
      | false => exact .inl (by simp [PyData.hasDictAll, p.d, q])
      | true => exact .inr (by simp [hasLAll, p.l, h.dl q])
  · simp only [PyData.shownAll, lens]
    have := h.ln
    have := hs.ln
    omega
theorem gdall_mono {xs : List PyData} {n k n' k' : Nat} (h : GdAll xs n k) (hn : n ≤ n') (hk : k ≤ k') : GdAll xs n' k' := ⟨h.sh, h.dl, h.nd, by have := h.dp; omega, by have := h.ln; omega⟩
end Fr

set_option Elab.async false
set_option linter.all false
set_option maxRecDepth 100000
namespace Fr
open PySem PySem.Spec PyProof.Rows L2
/-! callees by their names -/
structure Callee (P : Program) (w : World) (K : PySem.W.Frag) (mg : Str → Option Value) (base : Heap) (k : Nat) (x : Str) (ps : List Str) (sp : Sp) : Prop where
  ex : ∃ f fd, FnOk P w K mg base CX0 k f fd ps sp ∧ mg x = some (.ref f) ∧ PySem.W.keepIn K (.ref f) = true ∧ Binds K fd ps []
theorem pe_u {X : Cx} {k j : Nat} {x : Str} {ps : List Str} {sp : Sp} {p pos : Pos} {e : Expr} {es : List Expr} {t : TA}
    (c : Callee X.prog X.w X.K X.mg X.base k x ps sp) (hr : Room j X.A) (hg : Gl X x) (ha : PA X (e :: es) t)
    (hkj : k ≤ j := by first | decide | exact Nat.le_refl _) (hdb : (x == ("__debug__" : Str)) = false := by decide)
    (he : starEach (e :: es) X.env = (false, eval e X.env) :: starEach es X.env := by rfl)
    (hpl : (backTo pos (starEach es X.env)).any (·.1) = false := by rfl) :
    PE X (.Call (.Name x p) (e :: es) [] pos) (tCall sp [] E0 t) := by
  obtain ⟨f, fd, F, gf, kf, bf⟩ := c.ex
  exact pe_call F (hr.mono hkj) hg gf kf bf .nil pass0 ha hdb he hpl
theorem Callee.mk' {P : Program} {w : World} {K : PySem.W.Frag} {mg : Str → Option Value} {base : Heap} {k : Nat} {x q : Str} {st : Stmt} {ps : List Str} {sp : Sp}
    {f : Addr} {fd : FuncData} (F : Fun K x q st f fd) (g : mg x = some (.ref f)) (b : Binds K fd ps [])
    (ok : FnOk P w K mg base CX0 k f fd ps sp) : Callee P w K mg base k x ps sp := ⟨⟨f, fd, ok, g, F.kp, b⟩⟩
/-! numbers -/
theorem at0 {x : V} {r : List V} : atI (x :: r) 0 = some x := atI_nat (j := 0) rfl
theorem at1 {x y : V} {r : List V} : atI (x :: y :: r) 1 = some y := atI_nat (j := 1) rfl
theorem at2 {x y z : V} {r : List V} : atI (x :: y :: z :: r) 2 = some z := atI_nat (j := 2) rfl
theorem dp_ints {K : PySem.W.Frag} {H : Hp} : ∀ l : List Int, DpAll K H (l.map V.int) (l.map PyData.int)
  | [] => .nil
  | _ :: l => .cons (.int _) (dp_ints l)
theorem lay_ints : ∀ l : List Int, PyData.canLayAll0 (l.map PyData.int) = true
  | [] => by simp [PyData.canLayAll0]
  | i :: l => by simp [PyData.canLayAll0, PyData.canLay0, lay_ints l]
theorem depth_ints : ∀ l : List Int, PyData.depthAll (l.map PyData.int) = 0
  | [] => by simp [PyData.depthAll]
  | i :: l => by simp [PyData.depthAll, PyData.depth, depth_ints l]
theorem shaped_ints (l : List Int) : SeqAt.shaped (.list (l.map PyData.int)) = true := by
  simp [SeqAt.shaped, PyData.canLay0, PyData.depth, lay_ints, depth_ints]
theorem shaped_nil : SeqAt.shaped (.list []) = true := shaped_ints []
theorem ix_first {x : Int} {r : List Int} : ixN ((x :: r).map V.int).length 0 = some 0 := by
  simp [ixN]
theorem eqv_nil (xs : List PyData) : PyData.eqv (.list xs) (.list []) = xs.isEmpty := by
  cases xs <;> simp [PyData.eqv, PyData.eqvAll]
theorem eqv_nilT (xs : List PyData) : PyData.eqv (.tuple xs) (.tuple []) = xs.isEmpty := by
  cases xs <;> simp [PyData.eqv, PyData.eqvAll]
end Fr

set_option Elab.async false
set_option linter.all false
set_option maxRecDepth 100000
namespace Fr
open PySem PySem.Spec PyProof.Rows L2
section
variable {X : Cx}
/-! a list of anything held against [] -/
def rNeE (K : PySem.W.Frag) : R2 := fun x y H Q => ∃ p q xs, x = .ref p ∧ y = .ref q ∧ SqL K H p xs ∧ SqL K H q [] ∧ Q (.bl (!xs.isEmpty)) H
def rEqE (K : PySem.W.Frag) : R2 := fun x y H Q => ∃ p q xs, x = .ref p ∧ y = .ref q ∧ SqL K H p xs ∧ SqL K H q [] ∧ Q (.bl xs.isEmpty) H
theorem op_neE (hu : X.A.units + 64 < cLine) : OpR X (compareOp .NotEq) (rNeE X.K) := by
  intro pins s σ H x y v u Q I rx ry h
  obtain ⟨p, q, xs, rfl, rfl, h1, h2, z⟩ := h
  cases rx
  cases ry
  obtain ⟨is, rv, l1, _⟩ := I.list h1
  obtain ⟨js, rw', l2, _⟩ := I.list h2
  cases rw'
  cases xs with
  | nil =>
    cases rv
    exact SeqAt.RcNeAt.lists (e := fun _ => true) l1.isList l2.isList rfl (by omega) (fun j a _ => absurd a (Nat.not_lt_zero _)) _ _ _ _ ⟨.bl _, H, I, rfl, z⟩
  | cons y xs =>
    cases rv
    exact SeqAt.RcNeAt.lists_lengths l1.isList l2.isList (by simp) (by omega) _ _ _ _ ⟨.bl _, H, I, rfl, z⟩
theorem op_eqE (hu : X.A.units + 64 < cLine) : OpR X (compareOp .Eq) (rEqE X.K) := by
  intro pins s σ H x y v u Q I rx ry h
  obtain ⟨p, q, xs, rfl, rfl, h1, h2, z⟩ := h
  cases rx
  cases ry
  obtain ⟨is, rv, l1, _⟩ := I.list h1
  obtain ⟨js, rw', l2, _⟩ := I.list h2
  cases rw'
  cases xs with
  | nil =>
    cases rv
    exact SeqAt.RcAt.lists (e := fun _ => true) l1.isList l2.isList rfl (by omega) (fun j a _ => absurd a (Nat.not_lt_zero _)) _ _ _ _ ⟨.bl _, H, I, rfl, z⟩
  | cons y xs =>
    cases rv
    exact SeqAt.RcAt.lists_lengths l1.isList l2.isList (by simp) (by omega) _ _ _ _ ⟨.bl _, H, I, rfl, z⟩
end
/-! t[::-1] of a tuple -/
theorem places_back (n : Nat) : Builtin.Slice.slicePlaces ((n : Int) - 1) (-1) (-1) = n := by
  unfold Builtin.Slice.slicePlaces
  rw [if_neg (by decide)]
  by_cases h : (n : Int) - 1 > -1
  · rw [if_pos h]
    have e0 : (- -1 : Int) = 1 := by decide
    have e : ((n : Int) - 1 - -1 - 1) / (- -1) + 1 = n := by
      rw [e0, Int.ediv_one]
      omega
    rw [e]
    exact Int.toNat_natCast n
  · rw [if_neg h]
    have e : n = 0 := by omega
    rw [e]
    rfl
theorem pick_back (xs : Array Value) : ((List.range xs.size).filterMap fun (k : Nat) => xs[(((xs.size : Int) - 1) + (k : Int) * -1).toNat]?).toArray = xs.toList.reverse.toArray := by
  congr 1
  have e2 : ∀ l : List Nat, (∀ k ∈ l, k < xs.size) → l.filterMap (fun (k : Nat) => xs[(((xs.size : Int) - 1) + (k : Int) * -1).toNat]?) = (l.map fun k => xs.size - 1 - k).filterMap (xs[·]?) := by
    intro l
    induction l with
    | nil => intro _; rfl
    | cons k l ih =>
      intro hk
      have hk1 := hk k List.mem_cons_self
      have e3 : (((xs.size : Int) - 1) + (k : Int) * -1).toNat = xs.size - 1 - k := by omega
      rw [List.map_cons, List.filterMap_cons, List.filterMap_cons, ih fun j hj => hk j (List.mem_cons_of_mem _ hj), e3]
  rw [e2 _ fun k hk => List.mem_range.mp hk, PySem.W.krv_range, List.filterMap_reverse, PySem.W.krv_all]
theorem getItem_back {prog : Program} {w : World} {A : Around} {E : Value → Shared → Prop} {s : Shared} {t sl : Addr} {items : Array Value} {vl vu vs : Value} {Q : Value → Shared → Prop}
    (ht : IsTup s.heap t items) (hs : s.heap.IsSliceOf sl vl vu vs) (pl : IsPart vl none) (pu : IsPart vu none) (ps : IsPart vs (some (-1)))
    (h : Q (.ref s.heap.objs.size) { s with heap := s.heap.push { cls := .type "tuple", data := .seq items.toList.reverse.toArray } })
    (hsz : items.size ≤ sizeLine) : wpAny (model prog w) A (getItem (.ref t) (.ref sl)) Q E s := by
  obtain ⟨os, hos, hcs, hds⟩ := id hs
  have hTs : s.TypeIs (.ref sl) "slice" := ⟨os, hos, hcs⟩
  unfold getItem
  try with_reducible refine wpAny_holding ?_
  try refine wpAny_bind (wpAny_pure ?_)
  refine wpAny_bind (wpAny_sequenceKey (ht.typeIs) (by decide) (wpAny_bind
    (wpAny_callSpecial?_slot (name := Str.ofString "__getitem__") (ht.typeIs) slot_tuple_getitem
      (wpAny_call_entry slot_tuple_getitem (ht.typeIs) entry_tuple_getitem ?_ (args_tuple_getitem _ _)))))
  show wpAny _ _ ((Builtin.Tuple.tupleItemsOf (.ref t)) >>= _) _ _ s
  refine wpAny_bind (tupleItemsOf_ ht (wpAny_bind (wpAny_typeOf hTs ?_)))
  rw [if_pos (by decide)]
  have app : ∀ {Q' : Int × Int × Nat → Shared → Prop}, Q' ((items.size : Int) - 1, -1, items.size) s →
      wpAny (model prog w) A.in1 (Builtin.Slice.sliceApplied (.ref sl) (pure (items.size : Int))) Q' E s := by
    intro Q' q
    unfold Builtin.Slice.sliceApplied Builtin.Slice.sliceFields
    refine wpAny_bind (wpAny_bind (wpAny_field hos hds (x := vl) rfl (wpAny_bind (wpAny_field hos hds (x := vu) rfl
      (wpAny_bind (wpAny_field hos hds (x := vs) rfl (wpAny_pure ?_)))))))
    refine wpAny_bind (HT.slicePart_ ps ?_)
    show wpAny _ _ (if ((-1 : Int) == 0) = true then _ else _) _ _ s
    rw [if_neg (by decide)]
    refine wpAny_bind (HT.slicePart_ pl (wpAny_bind (HT.slicePart_ pu (wpAny_bind (wpAny_pure ?_)))))
    show wpAny _ _ (pure (((items.size : Int) - 1), (-1 : Int), Builtin.Slice.slicePlaces ((items.size : Int) - 1) (-1) (-1))) _ _ s
    rw [places_back]
    exact wpAny_pure q
  have fits : sizeOk (.seq items.toList.reverse.toArray) := by
    show items.toList.reverse.toArray.size ≤ sizeLine
    rw [List.size_toArray, List.length_reverse, Array.length_toList]
    exact hsz
  first
  | refine wpAny_bind (app ?_)
  | (refine wpAny_bind ?_; trace_state)
  show wpAny _ _ (if (((items.size : Int) - 1) == 0 && (-1 : Int) == 1 && items.size == items.size) = true then _ else _) _ _ s
  rw [if_neg (by simp), pick_back]
  first
    | exact wpAny_bind (m := Builtin.Tuple.tupleExact _) (wpAny_newObj_type (wpAny_pure ⟨_, rfl, wpAny_pure h⟩) fits)
    | exact wpAny_bind (m := Builtin.Tuple.tupleExact _) (wpAny_newObj_type (wpAny_bind (wpAny_pure (wpAny_pure ⟨_, rfl, wpAny_pure h⟩))) fits)
section
variable {X : Cx}
def tRevT (K : PySem.W.Frag) (te : TE) : TE := fun σ H Q => te σ H fun x H1 => ∃ a xs, x = .ref a ∧ SqT K H1 a xs ∧ ∀ p, H1 p = none → Q (.ref p) (upd H1 p (.tup xs.reverse))
theorem pe_revT {e : Expr} {te : TE} {k : Nat} {p1 p2 p3 pos : Pos} (he : PE X e te) :
    PE X (.Subscript e (.Slice none none (some (.UnaryOp .USub (.Constant (.int 1) k p1) p2)) p3) pos) (tRevT X.K te) := by
  refine ⟨fun pins s σ H Q I h => Subscript_ (thn (he.run pins s σ H _ I h) fun v s1 ⟨x, H1, I1, r1, a, xs, ex, hx, q⟩ => ?_)⟩
  subst ex
  cases r1
  have back : PO X (some (.UnaryOp .USub (.Constant (.int 1) k p1) p2)) (tPart (tUn (rU fun i => .int (-i)) (tC (.int 1)))) := po_some (pe_un un_neg pe_int)
  refine wpAny_Slice (thn (po_none.run pins s1 σ H1 (fun o G => o = none ∧ G = H1) I1 ⟨rfl, rfl⟩) fun vl s2 ⟨o2, H2, I2, pl, e1, e2⟩ => ?_)
  subst e1 e2
  refine thn (po_none.run pins s2 σ H2 (fun o G => o = none ∧ G = H2) I2 ⟨rfl, rfl⟩) fun vu s3 ⟨o3, H3, I3, pu, e1, e2⟩ => ?_
  subst e1 e2
  refine thn (back.run pins s3 σ H3 (fun o G => o = some (-1) ∧ G = H3) I3 ⟨1, rfl, -1, rfl, rfl, rfl⟩) fun vs s4 ⟨o4, H4, I4, ps, e1, e2⟩ => ?_
  subst e1 e2
  have J := I4.kept (h' := s4.heap.push { cls := .type "slice", data := .fields #[vl, vu, vs] }) (t' := s4.toks) fun b ob z => Heap.get?_push_of_some _ z
  obtain ⟨its, r, ht, hz⟩ := J.tuple hx
  refine tail_any (ops := [.ref a, .ref s4.heap.objs.size]) ht.typeIs PyProof.Rows.slot_tuple_getitem.lookup ?_ (by with_unfolding_all rfl)
  refine getItem_back ht (Heap.IsSliceOf.new _ vl vu vs) pl pu ps ?_ (by rw [List.size_toArray, ← r.length]; exact hz)
  refine ⟨.ref _, _, J.laid (t' := s4.toks) (o := .tup xs.reverse) (fun b ob z => Heap.get?_push_of_some _ z) (Nat.le_refl _) ?_, rfl, q _ (J.hok.fresh (Nat.le_refl _))⟩
  exact ⟨by rw [List.length_reverse]; exact hz, _, r.reverse, ⟨_, Heap.get?_push_size _ rfl, rfl, _, rfl⟩⟩
end
end Fr

set_option Elab.async false
set_option linter.all false
set_option maxRecDepth 100000
namespace Fr
open PySem PySem.Spec PyProof.Rows L2
/-! what a thing is an instance of -/
def tyN : PyData → String
  | .none => "NoneType"
  | .bool _ => "bool"
  | .int _ => "int"
  | .str _ => "str"
  | .list _ => "list"
  | .tuple _ => "tuple"
  | .dict _ => "dict"
def isI : PyData → Bool
  | .int _ => true
  | .bool _ => true
  | _ => false
theorem kitI_none : kitB "NoneType" "int" = some false := by decide +kernel
theorem kitI_bool : kitB "bool" "int" = some true := by decide +kernel
theorem kitI_int : kitB "int" "int" = some true := by decide +kernel
theorem kitI_str : kitB "str" "int" = some false := by decide +kernel
theorem kitI_list : kitB "list" "int" = some false := by decide +kernel
theorem kitI_tuple : kitB "tuple" "int" = some false := by decide +kernel
theorem kitI_dict : kitB "dict" "int" = some false := by decide +kernel
theorem kit_I : ∀ x : PyData, kitB (tyN x) "int" = some (isI x)
  | .none => kitI_none
  | .bool _ => kitI_bool
  | .int _ => kitI_int
  | .str _ => kitI_str
  | .list _ => kitI_list
  | .tuple _ => kitI_tuple
  | .dict _ => kitI_dict
def isB : PyData → Bool
  | .bool _ => true
  | _ => false
theorem kitB_none : kitB "NoneType" "bool" = some false := by decide +kernel
theorem kitB_bool : kitB "bool" "bool" = some true := by decide +kernel
theorem kitB_int : kitB "int" "bool" = some false := by decide +kernel
theorem kitB_str : kitB "str" "bool" = some false := by decide +kernel
theorem kitB_list : kitB "list" "bool" = some false := by decide +kernel
theorem kitB_tuple : kitB "tuple" "bool" = some false := by decide +kernel
theorem kitB_dict : kitB "dict" "bool" = some false := by decide +kernel
theorem kit_B : ∀ x : PyData, kitB (tyN x) "bool" = some (isB x)
  | .none => kitB_none
  | .bool _ => kitB_bool
  | .int _ => kitB_int
  | .str _ => kitB_str
  | .list _ => kitB_list
  | .tuple _ => kitB_tuple
  | .dict _ => kitB_dict
def isT : PyData → Bool
  | .tuple _ => true
  | _ => false
theorem kitT_none : kitB "NoneType" "tuple" = some false := by decide +kernel
theorem kitT_bool : kitB "bool" "tuple" = some false := by decide +kernel
theorem kitT_int : kitB "int" "tuple" = some false := by decide +kernel
theorem kitT_str : kitB "str" "tuple" = some false := by decide +kernel
theorem kitT_list : kitB "list" "tuple" = some false := by decide +kernel
theorem kitT_tuple : kitB "tuple" "tuple" = some true := by decide +kernel
theorem kitT_dict : kitB "dict" "tuple" = some false := by decide +kernel
theorem kit_T : ∀ x : PyData, kitB (tyN x) "tuple" = some (isT x)
  | .none => kitT_none
  | .bool _ => kitT_bool
  | .int _ => kitT_int
  | .str _ => kitT_str
  | .list _ => kitT_list
  | .tuple _ => kitT_tuple
  | .dict _ => kitT_dict
def isS : PyData → Bool
  | .str _ => true
  | _ => false
theorem kitS_none : kitB "NoneType" "str" = some false := by decide +kernel
theorem kitS_bool : kitB "bool" "str" = some false := by decide +kernel
theorem kitS_int : kitB "int" "str" = some false := by decide +kernel
theorem kitS_str : kitB "str" "str" = some true := by decide +kernel
theorem kitS_list : kitB "list" "str" = some false := by decide +kernel
theorem kitS_tuple : kitB "tuple" "str" = some false := by decide +kernel
theorem kitS_dict : kitB "dict" "str" = some false := by decide +kernel
theorem kit_S : ∀ x : PyData, kitB (tyN x) "str" = some (isS x)
  | .none => kitS_none
  | .bool _ => kitS_bool
  | .int _ => kitS_int
  | .str _ => kitS_str
  | .list _ => kitS_list
  | .tuple _ => kitS_tuple
  | .dict _ => kitS_dict
def isL : PyData → Bool
  | .list _ => true
  | _ => false
theorem kitL_none : kitB "NoneType" "list" = some false := by decide +kernel
theorem kitL_bool : kitB "bool" "list" = some false := by decide +kernel
theorem kitL_int : kitB "int" "list" = some false := by decide +kernel
theorem kitL_str : kitB "str" "list" = some false := by decide +kernel
theorem kitL_list : kitB "list" "list" = some true := by decide +kernel
theorem kitL_tuple : kitB "tuple" "list" = some false := by decide +kernel
theorem kitL_dict : kitB "dict" "list" = some false := by decide +kernel
theorem kit_L : ∀ x : PyData, kitB (tyN x) "list" = some (isL x)
  | .none => kitL_none
  | .bool _ => kitL_bool
  | .int _ => kitL_int
  | .str _ => kitL_str
  | .list _ => kitL_list
  | .tuple _ => kitL_tuple
  | .dict _ => kitL_dict

section
variable {d a : Addr} {b : Sd} {H : Hp} {K : PySem.W.Frag} {v : V} {x : PyData}
theorem Dt.ty (h : Dt d a b H v x) : TyX K H v (.type (tyN x)) := by
  cases h with
  | non => exact .base .non
  | bl k => exact .base (.bl k)
  | int i => exact .base (.int i)
  | str y => exact .base (.str y)
  | lst h1 h2 h3 => exact .base (.lst h1)
  | tup h1 h2 h3 => exact .base (.tup h1)
  | dct h1 h2 => exact .base (.dK h1)
end
/-! a whole number; one from lo to hi -/
def isW : PyData → Bool
  | .int _ => true
  | _ => false
def inR (lo hi : Int) : PyData → Bool
  | .int i => decide (lo ≤ i) && decide (i ≤ hi)
  | _ => false
theorem isW_eq (x : PyData) : isW x = (isI x && !isB x) := by cases x <;> rfl
theorem of_isW {d a : Addr} {b : Sd} {H : Hp} {v : V} {x : PyData} (h : Dt d a b H v x) (w : isW x = true) : ∃ i, v = .int i ∧ x = .int i := by
  cases h with
  | int i => exact ⟨i, rfl, rfl⟩
  | _ => cases w
theorem inR_no {lo hi : Int} {x : PyData} (w : isW x = false) : inR lo hi x = false := by
  cases x with
  | int i => cases w
  | _ => rfl
end Fr

set_option Elab.async false
set_option linter.all false
set_option maxRecDepth 100000
namespace Fr
open PySem PySem.Spec PyProof.Rows L2
theorem Callee.mono {P : Program} {w : World} {K : PySem.W.Frag} {mg : Str → Option Value} {base : Heap} {j k : Nat} {x : Str} {ps : List Str} {sp : Sp}
    (c : Callee P w K mg base j x ps sp) (h : j ≤ k) : Callee P w K mg base k x ps sp := by
  obtain ⟨f, fd, F, r⟩ := c.ex
  exact ⟨⟨f, fd, F.mono h, r⟩⟩
/-! things as they are drawn: numbers below 10 ** 13, tuples of at most twelve such -/
mutual
def bs : PyData → Bool
  | .int i => decide (i.natAbs < 10 ^ 13)
  | .tuple xs => decide (xs.length ≤ 12) && bsAll xs
  | _ => false
def bsAll : List PyData → Bool
  | [] => true
  | x :: xs => bs x && bsAll xs
end
def szS : Nat → Nat
  | 0 => 63
  | n + 1 => 12 * (szS n + 2) + 3
theorem szS_ge : ∀ n, 63 ≤ szS n
  | 0 => Nat.le_refl _
  | n + 1 => by
    have := szS_ge n
    show 63 ≤ 12 * (szS n + 2) + 3
    omega
mutual
theorem bs_gd : ∀ (x : PyData) (n : Nat), bs x = true → x.depth ≤ n → Gd x (szS n) n ∧ Pl x
  | .int i, n, h, _ => by
    have h : i.natAbs < 10 ^ 13 := by simpa [bs] using h
    exact ⟨(gd_int (Nat.lt_trans h (by decide))).mono (by have := szS_ge n; omega) (Nat.zero_le _), pl_int i⟩
  | .tuple xs, 0, _, hd => by
    simp [PyData.depth] at hd
  | .tuple xs, n + 1, h, hd => by
    simp only [bs, Bool.and_eq_true, decide_eq_true_eq] at h
    have hd : PyData.depthAll xs ≤ n := by simpa [PyData.depth] using hd
    obtain ⟨g, p⟩ := bs_gdAll xs n h.2 hd
    refine ⟨(gd_tup g).mono ?_ (Nat.le_refl _), pl_tup p⟩
    show xs.length * (szS n + 2) + 3 ≤ 12 * (szS n + 2) + 3
    have := Nat.mul_le_mul_right (szS n + 2) h.1
    omega
  | .none, _, h, _ => by simp [bs] at h
  | .bool _, _, h, _ => by simp [bs] at h
  | .str _, _, h, _ => by simp [bs] at h
  | .list _, _, h, _ => by simp [bs] at h
  | .dict _, _, h, _ => by simp [bs] at h
theorem bs_gdAll : ∀ (xs : List PyData) (n : Nat), bsAll xs = true → PyData.depthAll xs ≤ n → GdAll xs (xs.length * (szS n + 2)) n ∧ PlAll xs
  | [], n, _, _ => ⟨gdall_mono gdall_nil (Nat.zero_le _) (Nat.zero_le _), plall_nil⟩
  | x :: xs, n, h, hd => by
    simp only [bsAll, Bool.and_eq_true] at h
    simp only [PyData.depthAll, Nat.max_le] at hd
    obtain ⟨g, p⟩ := bs_gd x n h.1 hd.1
    obtain ⟨gs, ps⟩ := bs_gdAll xs n h.2 hd.2
    refine ⟨gdall_mono (gdall_cons g gs (.inl p)) ?_ (Nat.le_refl _), plall_cons p ps⟩
    rw [List.length_cons, Nat.add_mul, Nat.one_mul]
    omega
end
mutual
theorem bs_lay : ∀ (x : PyData), bs x = true → x.canLay0 = true
  | .int i, _ => by simp [PyData.canLay0]
  | .tuple xs, h => by
    simp only [bs, Bool.and_eq_true] at h
    simpa [PyData.canLay0] using bs_layAll xs h.2
  | .none, h => by simp [bs] at h
  | .bool _, h => by simp [bs] at h
  | .str _, h => by simp [bs] at h
  | .list _, h => by simp [bs] at h
  | .dict _, h => by simp [bs] at h
theorem bs_layAll : ∀ (xs : List PyData), bsAll xs = true → PyData.canLayAll0 xs = true
  | [], _ => by simp [PyData.canLayAll0]
  | x :: xs, h => by
    simp only [bsAll, Bool.and_eq_true] at h
    simp [PyData.canLayAll0, bs_lay x h.1, bs_layAll xs h.2]
end
theorem bsAll_iff : ∀ xs : List PyData, bsAll xs = true ↔ ∀ x ∈ xs, bs x = true
  | [] => by simp [bsAll]
  | x :: xs => by simp [bsAll, bsAll_iff xs]
theorem depthAll_le : ∀ (xs : List PyData) (n : Nat), PyData.depthAll xs ≤ n ↔ ∀ x ∈ xs, x.depth ≤ n
  | [], n => by simp [PyData.depthAll]
  | x :: xs, n => by simp [PyData.depthAll, Nat.max_le, depthAll_le xs n]
section
variable {d a : Addr} {b : Sd} {H : Hp} {K : PySem.W.Frag}
mutual
theorem Dt.dp : ∀ (x : PyData) (v : V), Dt d a b H v x → bs x = true → Dp K H v x
  | .int _, _, .int i, _ => .int i
  | .tuple _, _, .tup h _ r, hb => .tup (SqT.of h) (DtAll.dp _ _ r (by simp only [bs, Bool.and_eq_true] at hb; exact hb.2))
  | .none, _, .non, h => by simp [bs] at h
  | .bool _, _, .bl _, h => by simp [bs] at h
  | .str _, _, .str _, h => by simp [bs] at h
  | .list _, _, .lst _ _ _, h => by simp [bs] at h
  | .dict _, _, .dct _ _, h => by simp [bs] at h
theorem DtAll.dp : ∀ (xs : List PyData) (vs : List V), DtAll d a b H vs xs → bsAll xs = true → DpAll K H vs xs
  | [], _, .nil, _ => .nil
  | _ :: _, _, .cons h r, hb => by
    simp only [bsAll, Bool.and_eq_true] at hb
    exact .cons (Dt.dp _ _ h hb.1) (DtAll.dp _ _ r hb.2)
end
theorem DtAll.take : ∀ {vs : List V} {xs : List PyData} (n : Nat), DtAll d a b H vs xs → DtAll d a b H (vs.take n) (xs.take n)
  | _, _, 0, _ => .nil
  | _, _, _ + 1, .nil => .nil
  | _, _, n + 1, .cons h r => .cons h (DtAll.take n r)
theorem DtAll.drop : ∀ {vs : List V} {xs : List PyData} (n : Nat), DtAll d a b H vs xs → DtAll d a b H (vs.drop n) (xs.drop n)
  | _, _, 0, r => r
  | _, _, _ + 1, .nil => .nil
  | _, _, n + 1, .cons _ r => DtAll.drop n r
theorem DtAll.reverse : ∀ {vs : List V} {xs : List PyData}, DtAll d a b H vs xs → DtAll d a b H vs.reverse xs.reverse
  | _, _, .nil => .nil
  | _, _, .cons h r => by
    rw [List.reverse_cons, List.reverse_cons]
    exact (DtAll.reverse r).append (.cons h .nil)
end
/-! slices and sums of tuples -/
theorem cut_to (xs : List V) (n : Nat) : cutV xs none (some (n : Int)) = xs.take n := by
  unfold cutV
  rw [HT.sIx_none, HT.sIx_nat, List.drop_zero, Nat.sub_zero]
  by_cases h : n ≤ xs.length
  · rw [Nat.min_eq_left h]
  · rw [Nat.min_eq_right (by omega), List.take_length, List.take_of_length_le (by omega)]
theorem cut_from (xs : List V) (n : Nat) : cutV xs (some (n : Int)) none = xs.drop n := by
  unfold cutV
  rw [HT.sIx_none, HT.sIx_nat]
  by_cases h : n ≤ xs.length
  · rw [Nat.min_eq_left h, List.take_of_length_le (by rw [List.length_drop]; omega)]
  · rw [Nat.min_eq_right (by omega), Nat.sub_self, List.take_zero, List.drop_of_length_le (by omega)]
theorem cut_last (xs : List V) : cutV xs (some (-1)) none = xs.drop (xs.length - 1) := by
  unfold cutV
  have e : HT.sIx xs.length 0 (some (-1)) = xs.length - 1 := by
    show (if (-1 : Int) < 0 then ((-1 : Int) + (xs.length : Int)).toNat else min (-1 : Int).toNat xs.length) = xs.length - 1
    rw [if_pos (by decide)]
    omega
  rw [HT.sIx_none, e, List.take_of_length_le (by rw [List.length_drop]; omega)]
section
variable {K : PySem.W.Frag} {d a : Addr} {b : Sd} {p q : Addr} {H : Hp} {c : Nat} {xs ys : List V} {Q : VK}
theorem cat_any (D : Deck d a b H c) (hx : H p = some (.tup xs)) (hy : H q = some (.tup ys)) (np : ¬ Own d a b p) (nq : ¬ Own d a b q) (hz : xs.length + ys.length ≤ sizeLine)
    (k : ∀ H' r, Same H H' → Deck d a b H' c → H' r = some (.tup (xs ++ ys)) → ¬ Own d a b r → Q (.ref r) H') : rCatA K (.ref p) (.ref q) H Q := by
  refine ⟨p, q, xs, ys, rfl, rfl, SqT.of hx, SqT.of hy, hz, fun e => ?_, fun _ e => ?_, fun _ _ r nr => k _ r (same_new nr) (D.new nr) upd_same (D.fresh nr)⟩
  · exact k H q (Same.refl H) D (by rw [hy, e]; rfl) nq
  · exact k H p (Same.refl H) D (by rw [hx, e, List.append_nil]) np
theorem sl_any (lo hi : Option Int) (D : Deck d a b H c) (hx : H p = some (.tup xs)) (np : ¬ Own d a b p)
    (k : ∀ H' r, Same H H' → Deck d a b H' c → H' r = some (.tup (cutV xs lo hi)) → ¬ Own d a b r → Q (.ref r) H') : rSlA K (.ref p) lo hi H Q := by
  refine ⟨p, xs, rfl, SqT.of hx, fun e => ?_, fun _ r nr => k _ r (same_new nr) (D.new nr) upd_same (D.fresh nr)⟩
  refine k H p (Same.refl H) D ?_ np
  unfold cutV
  rw [e.1, e.2, List.drop_zero, Nat.sub_zero, List.take_length]
  exact hx
end
theorem sl_from {K : PySem.W.Frag} {d a : Addr} {b : Sd} {p : Addr} {H : Hp} {c : Nat} {xs : List V} {Q : VK} {σ : L2.St} (lo : Option Int) (D : Deck d a b H c) (hx : H p = some (.tup xs)) (np : ¬ Own d a b p)
    (k : ∀ H' r, Same H H' → Deck d a b H' c → H' r = some (.tup (cutV xs lo none)) → ¬ Own d a b r → Q (.ref r) H') : tNoPart σ H (fun u H3 => rSlA K (.ref p) lo u H3 Q) := sl_any lo none D hx np k
theorem repr_num {i : Int} (h : i.natAbs < 10 ^ 13) : (reprText (Str.ofString (toString i))).length ≤ 152 := by
  have e := StrLaws.reprText_len (Str.ofString (toString i)) (fun c hc => by
    have hc2 : c ∈ ((toString i).toList.map fun ch => ch.toNat) := by
      rw [Str.ofString_eq_toList] at hc
      simpa using hc
    obtain ⟨ch, _, rfl⟩ := List.mem_map.mp hc2
    have h1 : ch.toNat < 1114112 := by
      have := ch.valid
      rcases this with h | h
      · exact Nat.lt_trans h (by decide)
      · exact h.2
    exact Nat.lt_trans h1 (by decide))
  have e2 := int_text_length_le10 (k := 13) (by decide) h
  rw [PySem.ofString_length] at e
  omega
end Fr

set_option Elab.async false
set_option linter.all false
set_option maxRecDepth 100000
namespace Fr
open PySem PySem.Spec PyProof.Rows L2
/-! a value that is a thing fit to be shown -/
def Th (d a : Addr) (b : Sd) (H : Hp) (v : V) : Prop := ∃ x, Dt d a b H v x ∧ Gd x 100000 12
section
variable {d a : Addr} {b : Sd} {p : Addr} {H H' : Hp} {v : V}
theorem Th.keep (k : Kp d a b H H') (h : Th d a b H v) : Th d a b H' v := by
  obtain ⟨x, t, g⟩ := h
  exact ⟨x, Dt.keep k _ _ t, g⟩
theorem Th.of {x : PyData} {n k : Nat} (t : Dt d a b H v x) (g : Gd x n k) (hn : n ≤ 100000) (hk : k ≤ 12) : Th d a b H v := ⟨x, t, g.mono hn hk⟩
theorem bsAll_ints {l : List Int} (h : ∀ i ∈ l, i.natAbs < 10 ^ 13) : bsAll (l.map PyData.int) = true := by
  rw [bsAll_iff]
  intro x hx
  obtain ⟨i, hi, rfl⟩ := List.mem_map.mp hx
  simp only [bs, decide_eq_true_eq]
  exact h i hi
theorem bs_ints {l : List Int} (hl : l.length ≤ 12) (h : ∀ i ∈ l, i.natAbs < 10 ^ 13) : bs (.tuple (l.map PyData.int)) = true := by
  simp only [bs, Bool.and_eq_true, decide_eq_true_eq, List.length_map]
  exact ⟨hl, bsAll_ints h⟩
theorem depth_tup (l : List Int) : (PyData.tuple (l.map PyData.int)).depth = 1 := by
  simp only [PyData.depth, depth_ints]
theorem Dt.ints {l : List Int} (h : H p = some (.tup (l.map V.int))) (n : ¬ Own d a b p) : Dt d a b H (.ref p) (.tuple (l.map PyData.int)) := .tup h n (DtAll.ints l)
theorem Th.ints {l : List Int} (h : H p = some (.tup (l.map V.int))) (n : ¬ Own d a b p) (hl : l.length ≤ 12) (hi : ∀ i ∈ l, i.natAbs < 10 ^ 13) : Th d a b H (.ref p) :=
  Th.of (Dt.ints h n) (bs_gd _ 1 (bs_ints hl hi) (by rw [depth_tup]; exact Nat.le_refl _)).1 (by decide) (by decide)
theorem Th.lints {l : List Int} (h : H p = some (.lst (l.map V.int))) (n : ¬ Own d a b p) (hl : l.length ≤ 12) (hi : ∀ i ∈ l, i.natAbs < 10 ^ 13) : Th d a b H (.ref p) := by
  obtain ⟨g, pl⟩ := bs_gdAll (l.map PyData.int) 0 (bsAll_ints hi) (by rw [depth_ints]; exact Nat.le_refl _)
  refine Th.of (.lst h n (DtAll.ints l)) (gd_lst g pl.d) ?_ (by decide)
  rw [List.length_map]
  have := Nat.mul_le_mul_right (szS 0 + 2) hl
  have e : 12 * (szS 0 + 2) = 780 := by decide
  omega
theorem _root_.Fr.Gd.d30 {x : PyData} (g : Gd x 100000 12) : x.depth ≤ 30 := by have := g.dp; omega
theorem _root_.Fr.Gd.sl {x : PyData} (g : Gd x 100000 12) : x.shown.length ≤ sizeLine := Nat.le_trans g.ln (by decide)
theorem gdb (k : Bool) : Gd (.bool k) 100000 12 := (gd_bl k).mono (by decide) (by decide)
/-- what a rule asks of a thing that is shown -/
theorem Th.show {Q : VK} {x : PyData} (t : Dt d a b H v x) (g : Gd x 100000 12) (q : Q (.str x.shown) H) : rShow [v] H Q :=
  ⟨d, a, b, v, x, rfl, t, g.sh, g.dl, by have := g.dp; omega, Nat.le_trans g.ln (by decide), q⟩
end
theorem Th.side {d a y : Addr} {b : Sd} {H : Hp} {v : V} (hb : b.l = none) (hy : H y = none) (h : Th d a b H v) : Th d a ⟨b.b, some y⟩ H v := by
  obtain ⟨x, t, g⟩ := h
  exact ⟨x, Dt.side hb hy _ _ t, g⟩
theorem Th.put {d a y : Addr} {b : Sd} {H : Hp} {v : V} {o : HO} (hy : Own d a b y) (h : Th d a b H v) : Th d a b (upd H y o) v := by
  obtain ⟨x, t, g⟩ := h
  refine ⟨x, Dt.keepO (fun z u e n => ?_) _ _ t, g⟩
  rw [upd_ne fun w => n (by rw [w]; exact hy)]
  exact e
def Ths (d a : Addr) (b : Sd) (H : Hp) (xs : List V) : Prop := ∀ v ∈ xs, Th d a b H v
theorem Ths.keep {d a : Addr} {b : Sd} {H H' : Hp} {xs : List V} (k : Kp d a b H H') (h : Ths d a b H xs) : Ths d a b H' xs := fun v hv => (h v hv).keep k
end Fr

set_option Elab.async false
set_option linter.all false
set_option maxRecDepth 100000
namespace Fr
open PySem PySem.Spec PyProof.Rows L2
structure CalleeG (P : Program) (w : World) (K : PySem.W.Frag) (mg : Str → Option Value) (base : Heap) (k : Nat) (x : Str) (ps : List Str) (sp : Sp) : Prop where
  ex : ∃ f fd, FnG P w K mg base k f fd ps sp ∧ mg x = some (.ref f) ∧ PySem.W.keepIn K (.ref f) = true ∧ Binds K fd ps []
theorem pe_uG {X : Cx} {k j : Nat} {x : Str} {ps : List Str} {sp : Sp} {p pos : Pos} {e : Expr} {es : List Expr} {t : TA}
    (c : CalleeG X.prog X.w X.K X.mg X.base k x ps sp) (gd : X.A.guards = some []) (hr : Room j X.A) (hg : Gl X x) (ha : PA X (e :: es) t)
    (hkj : k ≤ j := by first | decide | exact Nat.le_refl _) (hdb : (x == ("__debug__" : Str)) = false := by decide)
    (he : starEach (e :: es) X.env = (false, eval e X.env) :: starEach es X.env := by rfl)
    (hpl : (backTo pos (starEach es X.env)).any (·.1) = false := by rfl) :
    PE X (.Call (.Name x p) (e :: es) [] pos) (tCall sp [] E0 t) := by
  obtain ⟨f, fd, F, gf, kf, bf⟩ := c.ex
  exact pe_callG F gd (hr.mono hkj) hg gf kf bf ha hdb he hpl
theorem CalleeG.mk' {P : Program} {w : World} {K : PySem.W.Frag} {mg : Str → Option Value} {base : Heap} {k : Nat} {x q : Str} {st : Stmt} {ps : List Str} {sp : Sp}
    {f : Addr} {fd : FuncData} (F : Fun K x q st f fd) (g : mg x = some (.ref f)) (b : Binds K fd ps [])
    (ok : FnG P w K mg base k f fd ps sp) : CalleeG P w K mg base k x ps sp := ⟨⟨f, fd, ok, g, F.kp, b⟩⟩
end Fr

set_option Elab.async false
set_option linter.all false
set_option maxRecDepth 100000
namespace Fr
open PySem PySem.Spec PyProof.Rows L2
theorem cut_ints (l : List Int) (lo hi : Option Int) : ∃ l' : List Int, cutV (l.map V.int) lo hi = l'.map V.int ∧ (∀ x ∈ l', x ∈ l) ∧ l'.length ≤ l.length := by
  refine ⟨(l.drop (HT.sIx (l.map V.int).length 0 lo)).take (HT.sIx (l.map V.int).length (l.map V.int).length hi - HT.sIx (l.map V.int).length 0 lo), ?_, fun x hx => ?_, ?_⟩
  · unfold cutV
    rw [← List.map_drop, ← List.map_take]
  · exact List.mem_of_mem_drop (List.mem_of_mem_take hx)
  · rw [List.length_take, List.length_drop]
    omega
theorem rep_ints (l : List Int) (n : Nat) : (List.replicate n (l.map V.int)).flatten = ((List.replicate n l).flatten).map V.int := by
  rw [List.map_flatten, List.map_replicate]
theorem mem_rep {l : List Int} {n : Nat} {x : Int} (h : x ∈ (List.replicate n l).flatten) : x ∈ l := by
  obtain ⟨m, hm, hx⟩ := List.mem_flatten.mp h
  rw [List.mem_replicate] at hm
  rw [← hm.2]
  exact hx
section
variable {d a p z : Addr} {b : Sd} {H : Hp} {vs : List V} {xs : List PyData}
/-- a thing as it is drawn -/
theorem Th.bs {v : V} {x : PyData} (t : Dt d a b H v x) (h : bs x = true) (hd : x.depth ≤ 2) : Th d a b H v := Th.of t (bs_gd x 2 h hd).1 (by decide) (by decide)
theorem bs_int {i : Int} (h : i.natAbs < 10 ^ 13) : Fr.bs (.int i) = true := by simpa [Fr.bs] using h
theorem bs_tup {l : List PyData} (h : ∀ x ∈ l, Fr.bs x = true) (hl : l.length ≤ 12) : Fr.bs (.tuple l) = true := by
  simp only [Fr.bs, Bool.and_eq_true, decide_eq_true_eq]
  exact ⟨hl, (bsAll_iff l).mpr h⟩
theorem depth_of {l : List PyData} {n : Nat} (h : ∀ x ∈ l, x.depth ≤ n) : (PyData.tuple l).depth ≤ n + 1 := by
  simp only [PyData.depth]
  have := (depthAll_le l n).mpr h
  omega
theorem depth_int (i : Int) : (PyData.int i).depth = 0 := by simp [PyData.depth]
/-- a house as a thing -/
theorem Dt.house {l : List Int} {k : Int} (h : H p = some (.tup [.ref z, .int k])) (hz : H z = some (.tup (l.map V.int))) (np : ¬ Own d a b p) (nz : ¬ Own d a b z) :
    Dt d a b H (.ref p) (.tuple [.tuple (l.map PyData.int), .int k]) := .tup h np (.cons (.tup hz nz (DtAll.ints l)) (.cons (.int k) .nil))
theorem bs_house {l : List Int} {k : Int} (hl : l.length ≤ 12) (hi : ∀ i ∈ l, i.natAbs < 10 ^ 13) (hk : k.natAbs < 10 ^ 13) : Fr.bs (.tuple [.tuple (l.map PyData.int), .int k]) = true := by
  refine bs_tup ?_ (by show 2 ≤ 12; decide)
  intro x hx
  simp only [List.mem_cons, List.not_mem_nil, or_false] at hx
  rcases hx with e | e <;> rw [e]
  · exact bs_ints hl hi
  · exact bs_int hk
theorem depth_house {l : List Int} {k : Int} : (PyData.tuple [.tuple (l.map PyData.int), .int k]).depth ≤ 2 := by
  refine depth_of (n := 1) ?_
  intro x hx
  simp only [List.mem_cons, List.not_mem_nil, or_false] at hx
  rcases hx with e | e <;> rw [e]
  · rw [depth_tup]; exact Nat.le_refl _
  · rw [depth_int]; exact Nat.zero_le _
theorem Th.house {l : List Int} {k : Int} (h : H p = some (.tup [.ref z, .int k])) (hz : H z = some (.tup (l.map V.int))) (np : ¬ Own d a b p) (nz : ¬ Own d a b z)
    (hl : l.length ≤ 12) (hi : ∀ i ∈ l, i.natAbs < 10 ^ 13) (hk : k.natAbs < 10 ^ 13) : Th d a b H (.ref p) := Th.bs (Dt.house h hz np nz) (bs_house hl hi hk) depth_house
end
end Fr

set_option Elab.async false
set_option linter.all false
set_option maxRecDepth 100000
namespace Fr
open PySem PySem.Spec PyProof.Rows L2
/-! sum of a tuple of numbers -/
def rSumT (K : PySem.W.Frag) : List V → Hp → VK → Prop := fun vs H Q => ∃ (p : Addr) (ns : List Int), vs = [V.ref p] ∧ SqT K H p (ns.map V.int) ∧ Q (.int ns.sum) H
theorem sum_upto (ns : List Int) : ∀ n, preSum (fun i => (ns[i]?).getD 0) n = (ns.take n).sum
  | 0 => by simp [preSum]
  | n + 1 => by
    rw [preSum, sum_upto ns n, List.take_add_one]
    cases h : ns[n]? with
    | none => simp
    | some z => simp [List.sum_append]
theorem cr_sumT {X : Cx} (hc : X.calm = true) : CallR X (.builtin "sum") (rSumT X.K) := by
  intro pins s σ H vs us Q I r h
  obtain ⟨p, ns, rfl, hs, q⟩ := h
  obtain ⟨its, rv, ht, _⟩ := I.tuple hs
  obtain ⟨u, rfl, e⟩ := vals1 r
  have e : u = Value.ref p := e
  subst e
  have tup : s.heap.IsTuple p its.toArray := ht
  have lt : p < s.heap.objs.size := by
    obtain ⟨o, ho, _⟩ := id tup
    exact Heap.lt_size ho
  have tup2 : (s.heap.push { cls := .type "tuple_iterator", data := .fields #[.ref p, .int 0 0] }).IsTuple p its.toArray := by
    obtain ⟨o, ho, z⟩ := id tup
    exact ⟨o, Heap.get?_push_of_some _ ho, z⟩
  refine call_sum_walkG (wpAny_pyIter_tuple tup ⟨_, _, _, _, _, _, fun i => (ns[i]?).getD 0, rfl, Walks.tuple (A := X.A.in1) (I.ok.hd hc) s.heap.objs.size p (Nat.ne_of_lt lt) its.toArray,
    ⟨⟨_, Heap.get?_push_size _ rfl, rfl, rfl⟩, tup2⟩, fun b hb => ?_, fun i v hv => ?_, fun h' tk t' hk => ?_⟩)
  · show b < (s.heap.push _).objs.size
    rw [Heap.size_push]
    simp only [List.mem_cons, List.not_mem_nil, or_false] at hb
    rcases hb with e | e
    · rw [e]; exact Nat.lt_succ_self _
    · rw [e]; exact Nat.lt_succ_of_lt lt
  · have hl := rv.length
    have hi : i < ns.length := by
      have := (Array.getElem?_eq_some_iff.mp hv).1
      rw [List.size_toArray] at this
      rw [List.length_map] at hl
      omega
    obtain ⟨u, hu, ru⟩ := rv.get (i := i) (x := .int ns[i]) (by rw [List.getElem?_map, List.getElem?_eq_getElem hi]; rfl)
    have e1 : its.toArray[i]? = some u := by simpa using hu
    rw [hv] at e1
    obtain ⟨t, et⟩ := ru
    refine ⟨t, ?_⟩
    rw [Option.some.inj e1, et]
    show Value.int ns[i] t = Value.int ((ns[i]?).getD 0) t
    rw [List.getElem?_eq_getElem hi]
    rfl
  · have e1 : preSum (fun i => (ns[i]?).getD 0) its.toArray.size = ns.sum := by
      have hl := rv.length
      rw [List.length_map] at hl
      rw [sum_upto, List.size_toArray, ← hl, List.take_length]
    rw [e1]
    refine ⟨.int ns.sum, H, I.kept fun b o e => hk b o (fun hm => ?_) (Heap.get?_push_of_some _ e), ⟨t', rfl⟩, q⟩
    have := List.mem_singleton.mp hm
    exact absurd (this ▸ Heap.lt_size e) (Nat.lt_irrefl _)
end Fr

set_option Elab.async false
set_option linter.all false
set_option maxRecDepth 100000
namespace Fr
open PySem PySem.Spec PyProof.Rows L2
/-! t * 1 is t itself, t * 0 is () -/
theorem mul_one_tup (l : Addr) (items : Array Value) (n : Nat) (dd : Option Addr) (sl : Array (Option Value)) (u : Tok) (c1 : (items.isEmpty || (1 : Int) == 1) = true) :
    Meets (Builtin.«tuple.__mul__» ⟨[.ref l, .int 1 u], []⟩) (fun _ R s => s.heap.get? l = some { cls := .type "tuple", dict := dd, data := .seq items n, slots := sl } ∧
      R (.ok (.ret (Value.ref l))) s) :=
  .of_wp fun prog w A R s h => by
    obtain ⟨hp, g, d, tk, os⟩ := s
    obtain ⟨hl, h⟩ := h
    have f1 := AutoSeq1.idx_int
    wp_walk using wpAny_loadPart' hl
    repeat (first
      | (refine wpAny_ite_false (decide_eq_false (by decide)) ?_; wp_walk using wpAny_loadPart' hl)
      | (refine wpAny_ite_true (decide_eq_true (by rw [c1])) ?_; wp_walk using wpAny_loadPart' hl)
      | (refine wpAny_ite_true (decide_eq_true (by decide)) ?_; wp_walk using wpAny_loadPart' hl))
    exact ⟨_, rfl, h⟩
theorem mul_zero_tup (l : Addr) (items : Array Value) (n : Nat) (dd : Option Addr) (sl : Array (Option Value)) (u : Tok) (c1 : (items.isEmpty || (0 : Int) == 1) = false) (c2 : (decide ((0 : Int) ≤ 0) || items.isEmpty) = true) :
    Meets (Builtin.«tuple.__mul__» ⟨[.ref l, .int 0 u], []⟩) (fun _ R s => s.heap.get? l = some { cls := .type "tuple", dict := dd, data := .seq items n, slots := sl } ∧
      R (.ok (.ret (Value.ref s.heap.objs.size))) { s with heap := s.heap.push { cls := Value.type "tuple", data := Data.seq #[] }, toks := s.toks }) :=
  .of_wp fun prog w A R s h => by
    obtain ⟨hp, g, d, tk, os⟩ := s
    obtain ⟨hl, h⟩ := h
    have f1 := AutoSeq1.idx_int
    wp_walk using wpAny_loadPart' hl
    repeat (first
      | (refine wpAny_ite_false (decide_eq_false (by decide)) ?_; wp_walk using wpAny_loadPart' hl)
      | (refine wpAny_ite_false (decide_eq_false (by rw [c1]; exact Bool.false_ne_true)) ?_; wp_walk using wpAny_loadPart' hl)
      | (refine wpAny_ite_true (decide_eq_true (by rw [c2])) ?_; wp_walk using wpAny_loadPart' hl)
      | (refine wpAny_ite_true (decide_eq_true (by decide)) ?_; wp_walk using wpAny_loadPart' hl))
    exact ⟨_, rfl, h⟩
/-- t * k, k from 0 on -/
def rRepA (K : PySem.W.Frag) : R2 := fun x y H Q => ∃ l k xs, x = .ref l ∧ y = .int k ∧ SqT K H l xs ∧ xs ≠ [] ∧ 0 ≤ k ∧ k ≤ 1000 ∧ xs.length ≤ 1000 ∧
  (k = 1 → Q (.ref l) H) ∧ (k ≠ 1 → ∀ p, H p = none → Q (.ref p) (upd H p (.tup (List.replicate k.toNat xs).flatten)))
theorem op_repA {X : Cx} : OpR X (binaryOp .Mult) (rRepA X.K) := by
  intro pins s σ H x y v u Q I rx ry h
  obtain ⟨l, k, xs, rfl, rfl, hT, hne, h0, h2, hz, q1, q2⟩ := h
  by_cases hk : 2 ≤ k
  · exact op_repT pins s σ H _ _ v u Q I rx ry ⟨l, k, xs, rfl, rfl, hT, hne, hk, h2, hz, q2 (by omega)⟩
  · cases rx
    obtain ⟨t, rfl⟩ := ry
    obtain ⟨its, r, ⟨⟨cls, dd, data, sl⟩, ho, hc, n, hd⟩, hs⟩ := I.tuple hT
    simp only at hc hd
    subst hc hd
    have hi : its.toArray.isEmpty = false := by
      cases its with
      | nil => exact absurd (List.eq_nil_of_length_eq_zero r.length) hne
      | cons _ _ => rfl
    by_cases e1 : k = 1
    · subst e1
      exact wpAny_binaryOp_repeat_ref (T := "tuple") (U := "int") (by decide) ⟨_, ho, rfl⟩ (fun s' => typeIs_int s' 1 t) noFill_tuple_mul F.fills_int_mul F.slot_int_rmul repeat_tuple F.slot_int_index.lookup
        (call_meets F.slot_int_rmul (typeIs_int s 1 t) F.entry_int_rmul (F.args_int_rmul_2 _ _) (int_rmul_tuple 1 t l its.toArray n dd sl)
          ⟨ho, rfl, ⟨_, ho, rfl⟩, call_meets F.slot_tuple_mul ⟨_, ho, rfl⟩ F.entry_tuple_mul (F.args_tuple_mul_2 _ _) (mul_one_tup l its.toArray n dd sl t (by simp)) ⟨ho, .ref l, H, I, rfl, q1 rfl⟩⟩)
    · obtain rfl : k = 0 := by omega
      refine wpAny_binaryOp_repeat_ref (T := "tuple") (U := "int") (by decide) ⟨_, ho, rfl⟩ (fun s' => typeIs_int s' 0 t) noFill_tuple_mul F.fills_int_mul F.slot_int_rmul repeat_tuple F.slot_int_index.lookup
        (call_meets F.slot_int_rmul (typeIs_int s 0 t) F.entry_int_rmul (F.args_int_rmul_2 _ _) (int_rmul_tuple 0 t l its.toArray n dd sl)
          ⟨ho, rfl, ⟨_, ho, rfl⟩, call_meets F.slot_tuple_mul ⟨_, ho, rfl⟩ F.entry_tuple_mul (F.args_tuple_mul_2 _ _) (mul_zero_tup l its.toArray n dd sl t (by rw [hi]; rfl) (by simp)) ⟨ho, ?_⟩⟩)
      refine ⟨.ref s.heap.objs.size, _, I.laid (t' := s.toks) (o := .tup []) (fun b ob z => Heap.get?_push_of_some _ z) (Nat.le_refl _) ?_, rfl, q2 (by decide) _ (I.hok.fresh (Nat.le_refl _))⟩
      exact ⟨Nat.zero_le _, [], .nil, IsTup.new _ _⟩
end Fr

set_option Elab.async false
set_option linter.all false
set_option maxRecDepth 100000
namespace Fr
open PySem PySem.Spec PyProof.Rows L2
/-! rules whose readings are named, for use within comprehensions -/
def rLen (K : PySem.W.Frag) : List V → Hp → VK → Prop := fun xs H Q => ∃ p ys, xs = [.ref p] ∧ (SqL K H p ys ∨ SqT K H p ys) ∧ Q (.int ys.length) H
theorem call_lenK {X : Cx} : CallR X (.builtin "len") (rLen X.K) := call_len_seq
def rTupOf (K : PySem.W.Frag) : List V → Hp → VK → Prop := fun xs H Q => ∃ p ys, xs = [.ref p] ∧ ((SqL K H p ys ∧ ∀ l, H l = none → Q (.ref l) (upd H l (.tup ys))) ∨ (SqT K H p ys ∧ Q (.ref p) H))
theorem call_tupK {X : Cx} : CallR X (.type "tuple") (rTupOf X.K) := call_tuple_of
def rLstOf (K : PySem.W.Frag) : List V → Hp → VK → Prop := fun xs H Q => ∃ p ys, xs = [.ref p] ∧ (SqL K H p ys ∨ SqT K H p ys) ∧ ∀ l, H l = none → Q (.ref l) (upd H l (.lst ys))
theorem call_lstK {X : Cx} : CallR X (.type "list") (rLstOf X.K) := call_list_of
/-! stands: a tuple of rows -/
def RowAt (d a : Addr) (b : Sd) (H : Hp) (v : V) (row : List Int) : Prop := ∃ q, v = .ref q ∧ H q = some (.tup (row.map V.int)) ∧ ¬ Own d a b q
inductive Rws (d a : Addr) (b : Sd) (H : Hp) : List V → List (List Int) → Prop
  | nil : Rws d a b H [] []
  | cons {v : V} {vs : List V} {r : List Int} {rs : List (List Int)} : RowAt d a b H v r → Rws d a b H vs rs → Rws d a b H (v :: vs) (r :: rs)
section
variable {d a p : Addr} {b : Sd} {H H' : Hp} {vs ws : List V} {rs ts : List (List Int)}
theorem Rws.length : ∀ {vs : List V} {rs : List (List Int)}, Rws d a b H vs rs → vs.length = rs.length
  | _, _, .nil => rfl
  | _, _, .cons _ r => by rw [List.length_cons, List.length_cons, Rws.length r]
theorem Rws.keepO (k : ∀ x o, H x = some o → ¬ Own d a b x → H' x = some o) : ∀ {vs : List V} {rs : List (List Int)}, Rws d a b H vs rs → Rws d a b H' vs rs
  | _, _, .nil => .nil
  | _, _, .cons ⟨q, e, h, n⟩ r => .cons ⟨q, e, k _ _ h n, n⟩ (Rws.keepO k r)
theorem Rws.keep (k : Kp d a b H H') (r : Rws d a b H vs rs) : Rws d a b H' vs rs := r.keepO fun x o h n => k x o h n
/-- a list of one's own is changed -/
theorem Rws.put {xs ys : List V} (hp : H p = some (.lst xs)) : ∀ {vs : List V} {rs : List (List Int)}, Rws d a b H vs rs → Rws d a b (upd H p (.lst ys)) vs rs
  | _, _, .nil => .nil
  | _, _, .cons ⟨q, e, h, n⟩ r => .cons ⟨q, e, by rw [upd_ne (ne_of h hp (by intro z; cases z))]; exact h, n⟩ (Rws.put hp r)
theorem Rws.append : ∀ {vs ws : List V} {rs ts : List (List Int)}, Rws d a b H vs rs → Rws d a b H ws ts → Rws d a b H (vs ++ ws) (rs ++ ts)
  | _, _, _, _, .nil, s => s
  | _, _, _, _, .cons h r, s => .cons h (Rws.append r s)
theorem Rws.get : ∀ {vs : List V} {rs : List (List Int)} {i : Nat} {v : V}, Rws d a b H vs rs → vs[i]? = some v → ∃ r, rs[i]? = some r ∧ RowAt d a b H v r
  | _, _, _, _, .nil, e => by simp at e
  | _, _, 0, _, .cons h _, e => by
    have e1 := Option.some.inj e
    subst e1
    exact ⟨_, rfl, h⟩
  | _, _, i + 1, v, .cons _ r, e => Rws.get (i := i) r e
theorem Rws.at : ∀ {vs : List V} {rs : List (List Int)} {i : Nat} {r : List Int}, Rws d a b H vs rs → rs[i]? = some r → ∃ v, vs[i]? = some v ∧ RowAt d a b H v r
  | _, _, _, _, .nil, e => by simp at e
  | _, _, 0, _, .cons h _, e => by
    have e1 := Option.some.inj e
    subst e1
    exact ⟨_, rfl, h⟩
  | _, _, i + 1, v, .cons _ r, e => Rws.at (i := i) r e
theorem Rws.dt : ∀ {vs : List V} {rs : List (List Int)}, Rws d a b H vs rs → DtAll d a b H vs (rs.map fun r => .tuple (r.map .int))
  | _, _, .nil => .nil
  | _, _, .cons ⟨q, e, h, n⟩ r => .cons (e ▸ .tup h n (DtAll.ints _)) (Rws.dt r)
theorem Rws.side {y : Addr} (hy : H y = none) : ∀ {vs : List V} {rs : List (List Int)}, Rws d a b H vs rs → Rws d a ⟨b.b, some y⟩ H vs rs
  | _, _, .nil => .nil
  | _, _, .cons ⟨q, e, h, n⟩ r => .cons ⟨q, e, h, side_no hy h n⟩ (Rws.side hy r)
end
/-- a stand at p -/
structure Snd (d a : Addr) (b : Sd) (H : Hp) (p : Addr) (rs : List (List Int)) : Prop where
  ex : ∃ vs, H p = some (.tup vs) ∧ Rws d a b H vs rs
  no : ¬ Own d a b p
section
variable {d a p y : Addr} {b : Sd} {H H' : Hp} {rs : List (List Int)}
theorem Snd.keep (s : Snd d a b H p rs) (k : Kp d a b H H') : Snd d a b H' p rs := by
  obtain ⟨vs, h, r⟩ := s.ex
  exact ⟨⟨vs, k _ _ h s.no, r.keep k⟩, s.no⟩
theorem Snd.dt (s : Snd d a b H p rs) : Dt d a b H (.ref p) (.tuple (rs.map fun r => .tuple (r.map .int))) := by
  obtain ⟨vs, h, r⟩ := s.ex
  exact .tup h s.no r.dt
theorem Snd.side (s : Snd d a b H p rs) (hy : H y = none) : Snd d a ⟨b.b, some y⟩ H p rs := by
  obtain ⟨vs, h, r⟩ := s.ex
  exact ⟨⟨vs, h, r.side hy⟩, side_no hy h s.no⟩
end
/-- the numbers of a stand -/
structure OkS (sizes : List Int) (kinds : Int) (rs : List (List Int)) : Prop where
  len : rs.length = sizes.length
  row : ∀ (i : Nat) (z : Int) (r : List Int), sizes[i]? = some z → rs[i]? = some r → r.length = kinds.toNat ∧ (∀ x ∈ r, 0 ≤ x) ∧ r.sum ≤ z
theorem sum_nn' {l : List Int} (h : ∀ x ∈ l, 0 ≤ x) : 0 ≤ l.sum := by
  induction l with
  | nil => exact Int.le_refl _
  | cons x l ih =>
    rw [List.sum_cons]
    have h1 := h x List.mem_cons_self
    have h2 := ih fun y hy => h y (List.mem_cons_of_mem _ hy)
    omega
theorem mem_sum {l : List Int} (h : ∀ x ∈ l, 0 ≤ x) {y : Int} (hy : y ∈ l) : y ≤ l.sum := by
  induction l with
  | nil => cases hy
  | cons x l ih =>
    rw [List.sum_cons]
    have h1 := h x List.mem_cons_self
    have hl : ∀ z ∈ l, 0 ≤ z := fun z hz => h z (List.mem_cons_of_mem _ hz)
    have h2 := sum_nn' hl
    rcases List.mem_cons.mp hy with e | e
    · omega
    · have := ih hl e
      omega
/-- all its numbers are small -/
def Sml (rs : List (List Int)) : Prop := rs.length ≤ 12 ∧ ∀ r ∈ rs, r.length ≤ 12 ∧ ∀ x ∈ r, x.natAbs < 10 ^ 13
theorem OkS.sml {sizes : List Int} {kinds : Int} {rs : List (List Int)} (o : OkS sizes kinds rs) (hl : sizes.length ≤ 9) (hk : kinds ≤ 6) (hz : ∀ s ∈ sizes, 1 ≤ s ∧ s ≤ 10 ^ 12) : Sml rs := by
  refine ⟨by rw [o.len]; omega, fun r hr => ?_⟩
  obtain ⟨i, hi⟩ := List.getElem?_of_mem hr
  have hi2 : i < sizes.length := by rw [← o.len]; exact (List.getElem?_eq_some_iff.mp hi).1
  have e := List.getElem?_eq_getElem hi2
  obtain ⟨h1, h2, h3⟩ := o.row i _ r e hi
  have hs := hz _ (List.getElem_mem hi2)
  refine ⟨by omega, fun x hx => ?_⟩
  have := h2 x hx
  have := mem_sum h2 hx
  omega
theorem Sml.bs {rs : List (List Int)} (s : Sml rs) : Fr.bs (.tuple (rs.map fun r => .tuple (r.map .int))) = true := by
  refine bs_tup (fun x hx => ?_) (by rw [List.length_map]; exact s.1)
  obtain ⟨r, hr, rfl⟩ := List.mem_map.mp hx
  exact bs_ints (s.2 r hr).1 (s.2 r hr).2
theorem Sml.depth {rs : List (List Int)} : (PyData.tuple (rs.map fun r => .tuple (r.map .int))).depth ≤ 2 := by
  refine depth_of (n := 1) fun x hx => ?_
  obtain ⟨r, hr, rfl⟩ := List.mem_map.mp hx
  exact Nat.le_of_eq (depth_tup r)
theorem Snd.th {d a p : Addr} {b : Sd} {H : Hp} {rs : List (List Int)} (s : Snd d a b H p rs) (m : Sml rs) : Th d a b H (.ref p) := Th.bs s.dt m.bs Sml.depth
section
variable {K : PySem.W.Frag} {d a p : Addr} {b : Sd} {H : Hp} {c : Nat} {xs : List V} {Q : VK} {n : Int}
theorem rep_any (D : Deck d a b H c) (hx : H p = some (.tup xs)) (np : ¬ Own d a b p) (h0 : xs ≠ []) (n0 : 0 ≤ n) (n1 : n ≤ 1000) (hl : xs.length ≤ 1000)
    (k : ∀ H' r, Same H H' → Deck d a b H' c → H' r = some (.tup (List.replicate n.toNat xs).flatten) → ¬ Own d a b r → Q (.ref r) H') : rRepA K (.ref p) (.int n) H Q := by
  refine ⟨p, n, xs, rfl, rfl, SqT.of hx, h0, n0, n1, hl, fun e => ?_, fun _ r nr => k _ r (same_new nr) (D.new nr) upd_same (D.fresh nr)⟩
  subst e
  refine k H p (Same.refl H) D ?_ np
  rw [hx]
  show _ = some (HO.tup (List.replicate 1 xs).flatten)
  simp
end
theorem cut_butlast (xs : List V) : cutV xs none (some (-1)) = xs.take (xs.length - 1) := by
  unfold cutV
  have e : HT.sIx xs.length xs.length (some (-1)) = xs.length - 1 := by
    show (if (-1 : Int) < 0 then ((-1 : Int) + (xs.length : Int)).toNat else min (-1 : Int).toNat xs.length) = xs.length - 1
    rw [if_pos (by decide)]
    omega
  rw [HT.sIx_none, e, List.drop_zero, Nat.sub_zero]
section
variable {d a : Addr} {b : Sd} {H : Hp}
theorem Rws.take : ∀ {vs : List V} {rs : List (List Int)} (n : Nat), Rws d a b H vs rs → Rws d a b H (vs.take n) (rs.take n)
  | _, _, 0, _ => .nil
  | _, _, _ + 1, .nil => .nil
  | _, _, n + 1, .cons h r => .cons h (Rws.take n r)
theorem Rws.drop : ∀ {vs : List V} {rs : List (List Int)} (n : Nat), Rws d a b H vs rs → Rws d a b H (vs.drop n) (rs.drop n)
  | _, _, 0, r => r
  | _, _, _ + 1, .nil => .nil
  | _, _, n + 1, .cons _ r => Rws.drop n r
theorem Rws.same {q : Addr} {r : List Int} (h : H q = some (.tup (r.map V.int))) (n : ¬ Own d a b q) : ∀ m : Nat, Rws d a b H (List.replicate m [V.ref q]).flatten (List.replicate m r)
  | 0 => .nil
  | m + 1 => .cons ⟨q, rfl, h, n⟩ (Rws.same h n m)
end
theorem Sml.sub {rs ts : List (List Int)} (s : Sml rs) (h : ∀ r ∈ ts, r ∈ rs) (hl : ts.length ≤ 12) : Sml ts := ⟨hl, fun r hr => s.2 r (h r hr)⟩
/-! what is shown in few signs has few items -/
theorem lens_le (ts : List Str) : 2 * ts.length ≤ piled ts := by
  induction ts with
  | nil => exact Nat.zero_le _
  | cons t r ih =>
    simp only [piled, List.map_cons, List.sum_cons, List.length_cons] at ih ⊢
    omega
theorem shownAll_len : ∀ xs : List PyData, (PyData.shownAll xs).length = xs.length
  | [] => by simp [PyData.shownAll]
  | x :: xs => by simp [PyData.shownAll, shownAll_len xs]
theorem mem_shown : ∀ {xs : List PyData} {x : PyData}, x ∈ xs → x.shown ∈ PyData.shownAll xs
  | y :: ys, x, h => by
    simp only [PyData.shownAll]
    rcases List.mem_cons.mp h with e | e
    · rw [e]; exact List.mem_cons_self
    · exact List.mem_cons_of_mem _ (mem_shown e)
theorem tup_few {xs : List PyData} {n : Nat} (h : (PyData.tuple xs).shown.length ≤ n) : xs.length ≤ n := by
  simp only [PyData.shown] at h
  have h1 := piled_le_tupleText (PyData.shownAll xs)
  have h2 := lens_le (PyData.shownAll xs)
  rw [shownAll_len] at h2
  omega
theorem Sml.set {rs : List (List Int)} {r : List Int} (s : Sml rs) (i : Nat) (h1 : r.length ≤ 12) (h2 : ∀ x ∈ r, x.natAbs < 10 ^ 13) : Sml (rs.set i r) := by
  refine ⟨by rw [List.length_set]; exact s.1, fun t ht => ?_⟩
  rcases List.mem_or_eq_of_mem_set ht with e | e
  · exact s.2 t e
  · rw [e]; exact ⟨h1, h2⟩
theorem Sml.putn {rs : List (List Int)} {r : List Int} {i k : Nat} {x m : Int} (s : Sml rs) (hr : rs[i]? = some r) (hm : (x + m).natAbs < 10 ^ 13) : Sml (rs.set i (r.set k (x + m))) := by
  have h := s.2 r (List.mem_of_getElem? hr)
  refine s.set i (by rw [List.length_set]; exact h.1) fun y hy => ?_
  rcases List.mem_or_eq_of_mem_set hy with e | e
  · exact h.2 y e
  · rw [e]; exact hm
theorem Sml.lst {d a p : Addr} {b : Sd} {H : Hp} {vs : List V} {rs : List (List Int)} (s : Sml rs) (h : H p = some (.lst vs)) (n : ¬ Own d a b p) (r : Rws d a b H vs rs) : Th d a b H (.ref p) := by
  have hb : bsAll (rs.map fun r => .tuple (r.map .int)) = true := by
    rw [bsAll_iff]
    intro x hx
    obtain ⟨t, ht, rfl⟩ := List.mem_map.mp hx
    exact bs_ints (s.2 t ht).1 (s.2 t ht).2
  have hd : PyData.depthAll (rs.map fun r => .tuple (r.map .int)) ≤ 1 := by
    rw [depthAll_le]
    intro x hx
    obtain ⟨t, _, rfl⟩ := List.mem_map.mp hx
    exact Nat.le_of_eq (depth_tup t)
  obtain ⟨g, pl⟩ := bs_gdAll _ 1 hb hd
  refine Th.of (.lst h n r.dt) (gd_lst g pl.d) ?_ (by decide)
  rw [List.length_map]
  have := Nat.mul_le_mul_right (szS 1 + 2) s.1
  have e : 12 * (szS 1 + 2) = 9420 := by decide
  omega
end Fr

set_option Elab.async false
set_option linter.all false
set_option maxRecDepth 100000
namespace Fr
open PySem PySem.Spec PyProof.Rows L2
/-! enumerate(t) of a tuple -/
abbrev itObj (t : Addr) : Obj := { cls := .type "tuple_iterator", data := .fields #[.ref t, .int 0 0] }
abbrev enObj (i : Addr) : Obj := { cls := .type "enumerate", data := .fields #[.none, .bool false, .ref i, rawInt 0, .none, .none] }
set_option maxHeartbeats 1000000 in
theorem enum_made (t : Addr) (items : Array Value) :
    Meets (Builtin.«enumerate.__new__» ⟨[.type "enumerate", .ref t], []⟩) (fun _ R s => s.heap.IsTuple t items ∧
      R (.ok (.ret (.ref (s.heap.push (itObj t)).objs.size))) { s with heap := (s.heap.push (itObj t)).push (enObj s.heap.objs.size) }) :=
  .of_wp fun prog w A R s h => by
    obtain ⟨hp, g, dd, tk, os⟩ := s
    obtain ⟨h1, h⟩ := h
    have hsub := sub_enumerate
    have q1 : ∀ {A' : Around} {E : Value → Shared → Prop} {Q : Value → Shared → Prop}, Q (.ref hp.objs.size) ⟨hp.push (itObj t), g, dd, tk, os⟩ →
        wpAny (model prog w) A' (pyIter (.ref t)) Q E ⟨hp, g, dd, tk, os⟩ := fun q => wpAny_pyIter_tuple (s := ⟨hp, g, dd, tk, os⟩) h1 q
    wp_walk using q1
    refine wpAny_stack_any fun st => wpAny_pure ?_
    split
    · rename_i c _ _ _ _ _
      cases (c == Value.type "enumerate") <;> (wp_walk using q1; exact ⟨_, rfl, h⟩)
    · wp_walk using q1
      exact ⟨_, rfl, h⟩
theorem call_enum_tup {prog : Program} {w : World} {A : Around} {E : Value → Shared → Prop} {s : Shared} {t : Addr} {items : Array Value} {Q : Value → Shared → Prop} (ht : s.heap.IsTuple t items)
    (h : ∀ h', IsEnum h' (s.heap.objs.size + 1) s.heap.objs.size 0 .none → h'.IsTupleIter s.heap.objs.size t 0 → (∀ b o, s.heap.get? b = some o → h'.get? b = some o) →
      Q (.ref (s.heap.objs.size + 1)) { s with heap := h' }) : wpAny (model prog w) A (call (.type "enumerate") [.ref t]) Q E s := by
  refine callType_new F.called_enumerate (by decide) (F.typeCall_enumerate_1 _) (F.newCall_enumerate_1 _) (fun obj => F.args_object_init_2 obj _) F.entry_enumerate_new (enum_made t items) ⟨ht, ?_⟩
  have sz : (s.heap.push (itObj t)).objs.size = s.heap.objs.size + 1 := Heap.size_push ..
  show _ ∧ _
  rw [sz]
  have he : ((s.heap.push (itObj t)).push (enObj s.heap.objs.size)).get? (s.heap.objs.size + 1) = some (enObj s.heap.objs.size) := by
    have e := Heap.get?_push_size (s.heap.push (itObj t)) (o := enObj s.heap.objs.size) rfl
    rwa [sz] at e
  exact ⟨⟨_, he, rfl⟩, h _ he ⟨_, Heap.get?_push_of_some _ (Heap.get?_push_size _ rfl), rfl, rfl⟩ fun b o x => Heap.get?_push_of_some _ (Heap.get?_push_of_some _ x)⟩
/-- the tuple at a, each item in a new pair with its place -/
def ItN (K : PySem.W.Frag) (a : Addr) : It :=
  ⟨fun i H => ∃ (xs : List V) (x : V), SqT K H a xs ∧ xs[i]? = some x,
    fun i H v H' => ∃ T x, v = .ref T ∧ H T = none ∧ H' = upd H T (.tup [.int (i : Nat), x]) ∧ ∀ xs, SqT K H a xs → xs[i]? = some x,
    fun i H => ∃ xs : List V, SqT K H a xs ∧ xs.length = i⟩
theorem turn_enumT {P : Program} {w : World} {K : PySem.W.Frag} {elts : List Expr} {kk : Nat} {tpos : Pos} (a e it : Addr) :
    Turn P w K (.Tuple elts kk tpos) (ItN K a) [e, it] e (fun i h => (∃ old, IsEnum h e it ((i : Nat) : Int) old) ∧ h.IsTupleIter it a i ∧ e ≠ it ∧ a ≠ it ∧ e ≠ a) where
  mem := by simp
  obj := fun i h st c hc => by
    obtain ⟨⟨old, he⟩, ⟨o, ho, _, hd⟩, _⟩ := st
    rcases (show c = e ∨ c = it by simpa using hc) with z | z
    · rw [z]
      exact ⟨_, he, fun v q => nomatch q⟩
    · rw [z]
      exact ⟨o, ho, fun v q => by rw [hd] at q; cases q⟩
  keep := fun i h h' st k => by
    obtain ⟨⟨old, he⟩, hi, n⟩ := st
    exact ⟨⟨old, k e (by simp) _ he⟩, hi.at fun o q => k it (by simp) o q, n⟩
  item := by
    intro X hP hw hK hc i pins s σ H E I hf st hg
    subst hP hw hK
    obtain ⟨⟨old, he⟩, hit, n1, n2, n3⟩ := st
    obtain ⟨xs, x, hq, hx⟩ := hg
    obtain ⟨its, rv, tp, hz⟩ := I.tuple hq
    obtain ⟨u, hu, ru⟩ := rv.get hx
    have lt_e : e < s.heap.objs.size := Heap.lt_size he
    have lt_i : it < s.heap.objs.size := by
      obtain ⟨_, z, _⟩ := id hit
      exact Heap.lt_size z
    have hil : i < its.toArray.size := by
      rw [List.size_toArray]
      exact (List.getElem?_eq_some_iff.mp hu).1
    refine wpAny_pyNext_enum_itemD (Draws.tuple (A := X.A.in1) (I.ok.hd hc) it a n2 its.toArray) he ⟨hit, tp⟩ hil n1 (by simp [n1, n3]) fun y h' tk hy ho st' hT hsz hk => ?_
    have ey : y = u := by
      have : its.toArray[i]? = some u := by simpa using hu
      rw [this] at hy
      exact (Option.some.inj hy).symm
    subst ey
    refine ⟨_, rfl, wpAny_letOwnedTupleGo_enum (s := { s with heap := h', toks := tk + 1 }) ho fun h2 he2 sb => ?_⟩
    have hT2 := (sb.2 _ (Nat.ne_of_gt lt_e)).trans hT
    have new : ObjOk X.prog X.w (upd H s.heap.objs.size (.tup [.int (i : Nat), x])) h2 s.heap.objs.size (.tup [.int (i : Nat), x]) :=
      ⟨by show 2 ≤ sizeLine; decide, [.int i tk, y], .cons ⟨_, rfl⟩ (.cons ru .nil), ⟨_, hT2, rfl, _, rfl⟩⟩
    have J := I.turnedNew (h' := h2) (t' := tk + 1) (ch := [e, it]) (fun c ob hb z => (sb.2 c fun w' => hb (by simp [w'])).trans (hk c ob (fun w' => hb (by simp [w'])) (fun w' => hb (by simp [w'])) z)) hf (Nat.le_refl _) new
    refine ⟨.ref s.heap.objs.size, _, J, rfl, ⟨_, x, rfl, I.hok.fresh (Nat.le_refl _), rfl, fun ys hy2 => by rw [I.tuple_inj hy2 hq]; exact hx⟩,
      ⟨⟨y, ?_⟩, st'.1.at fun o z => (sb.2 it (Ne.symm n1)).trans z, n1, n2, n3⟩, fun c hc2 => ?_⟩
    · rw [show ((i + 1 : Nat) : Int) = (i : Int) + 1 by omega]
      exact he2
    · have lt_c : c < s.heap.objs.size := by
        rcases (show c = e ∨ c = it by simpa using hc2) with z | z <;> rw [z] <;> assumption
      rw [upd_ne (Nat.ne_of_lt lt_c)]
      exact (hf c hc2).1
  done := by
    intro X hP hw hK hc i pins s σ H E I hf st hg
    subst hP hw hK
    obtain ⟨⟨old, he⟩, hit, n1, n2, n3⟩ := st
    obtain ⟨xs, hq, hx⟩ := hg
    obtain ⟨its, rv, tp, hz⟩ := I.tuple hq
    obtain ⟨f0, f1, f2, f3, f4, f5⟩ := hf it (by simp)
    have hl := rv.length
    have ei : i = its.toArray.size := by rw [List.size_toArray]; omega
    subst ei
    exact wpAny_pyNext_enum_endD (Draws.tuple (A := X.A.in1) (I.ok.hd hc) it a n2 its.toArray) he ⟨hit, tp⟩ fun h' eb => ⟨rfl, I.turned (t' := s.toks) (fun c o hb z => eb c o hb z) f0 f1 f3 f4 f5⟩
  self := fun A i s Q E st h => let ⟨⟨_, he⟩, _⟩ := st; wpAny_pyIter_enum he h
def iEnumT (K : PySem.W.Frag) (ta : TA) : TI := fun σ H R => ta σ H fun vs H1 => ∃ a xs, vs = [.ref a] ∧ SqT K H1 a xs ∧ R (ItN K a) H1
theorem pi_enumT {X : Cx} {e : Expr} {ta : TA} {p pos tpos : Pos} {elts : List Expr} {kk : Nat} (hg : Gl X "enumerate") (hm : X.mg "enumerate" = none) (ha : PA X [e] ta)
    (hs : starEach [e] X.env = [(false, eval e X.env)] := by rfl) : PI X (.Tuple elts kk tpos) (.Call (.Name "enumerate" p) [e] [] pos) (iEnumT X.K ta) := by
  refine ⟨fun pins s σ H R I h => Call_ (ld_blt I hg hm boot_enumerate (callWith_type1 (thn (ha.run pos pins s σ H _ I h) fun us s1 ⟨vs, H1, I1, r1, a, xs, ex, hq, q⟩ => ?_) hs rfl))⟩
  subst ex
  obtain ⟨u, rfl, ru⟩ := vals1 r1
  have ru : u = Value.ref a := ru
  subst ru
  obtain ⟨its, rv, tp, hz⟩ := I1.tuple hq
  have lt_a : a < s1.heap.objs.size := by
    obtain ⟨o, ho, _⟩ := id tp
    exact Heap.lt_size ho
  refine call_enum_tup (items := its.toArray) tp fun h' he hit hk => wpAny_pyIter_enum he ?_
  have J : Inv X pins σ H1 { s1 with heap := h' } := I1.kept (t' := s1.toks) hk
  refine ⟨s1.heap.objs.size + 1, [s1.heap.objs.size + 1, s1.heap.objs.size], _, _, H1, rfl, J, turn_enumT a (s1.heap.objs.size + 1) s1.heap.objs.size,
    ⟨⟨.none, he⟩, hit, Nat.succ_ne_self _, Nat.ne_of_lt lt_a, Nat.ne_of_gt (Nat.lt_succ_of_lt lt_a)⟩, fun c hc => ?_, q⟩
  have le_c : s1.heap.objs.size ≤ c := by
    rcases (show c = s1.heap.objs.size + 1 ∨ c = s1.heap.objs.size by simpa using hc) with z | z <;> rw [z]
    · exact Nat.le_succ _
    · exact Nat.le_refl _
  exact I1.fpOk le_c (I1.hok.fresh le_c)
/-- a loop over enumerate of a tuple -/
theorem for_enumT {K : PySem.W.Frag} {a : Addr} {xs : List V} {g : TG} {tb : TS} {D : Ends} {σ : L2.St} {H : Hp} (Pv : Nat → L2.St → Hp → Prop) (h0 : Pv 0 σ H) (hq : ∀ i σ H, Pv i σ H → SqT K H a xs)
    (hs : ∀ (i : Nat) (x : V) (T : Addr) (σ : L2.St) (H : Hp), xs[i]? = some x → Pv i σ H → H T = none → g (.ref T) σ (upd H T (.tup [.int (i : Nat), x])) fun σ2 H2 => tb { D with nx := Pv (i + 1), ct := Pv (i + 1), bk := D.nx } σ2 H2)
    (hd : ∀ σ H, Pv xs.length σ H → D.nx σ H) :
    ∃ W : Nat → Nat → L2.St → Hp → Prop, (∃ m, W 0 m σ H) ∧ ∀ i m σ H, W i m σ H → ((ItN K a).stop i H ∧ D.nx σ H) ∨ ((ItN K a).go i H ∧ ∃ N : L2.St → Hp → Prop,
      (∀ σ' H', N σ' H' → ∃ m', m' < m ∧ W (i + 1) m' σ' H') ∧ ∀ v H', (ItN K a).yld i H v H' → g v σ H' fun σ2 H2 => tb { D with nx := N, ct := N, bk := D.nx } σ2 H2) := by
  refine ⟨fun i m σ H => m = xs.length - i ∧ i ≤ xs.length ∧ Pv i σ H, ⟨xs.length, by simp, Nat.zero_le _, h0⟩, ?_⟩
  rintro i m σ H ⟨rfl, hi, p⟩
  have sq := hq i σ H p
  by_cases lt : i < xs.length
  · refine .inr ⟨⟨xs, _, sq, List.getElem?_eq_getElem lt⟩, Pv (i + 1), fun σ' H' p' => ⟨xs.length - (i + 1), by omega, rfl, lt, p'⟩, fun v H' y => ?_⟩
    obtain ⟨T, x, rfl, hT, rfl, fx⟩ := y
    exact hs i x T σ H (fx xs sq) p hT
  · have e : i = xs.length := by omega
    subst e
    exact .inl ⟨⟨xs, sq, rfl⟩, hd σ H p⟩
/-- a comprehension over zip of two tuples of one length -/
theorem lc_zipT {K : PySem.W.Frag} {a b : Addr} {xs ys : List V} {g : TG} {tt : TT} {te : TE} {vs : List Nat} {σ : L2.St} {H1 : Hp} {D : Addr} {Qd : Hp → Prop} (hl : xs.length = ys.length) (Pv : Nat → Hp → Prop) (h0 : Pv 0 (upd H1 D (.lst [])))
    (hq : ∀ i H, Pv i H → SqT K H a xs ∧ SqT K H b ys)
    (hs : ∀ (i : Nat) (x y : V) (T : Addr) (H : Hp), xs[i]? = some x → ys[i]? = some y → Pv i H → H T = none → g (.ref T) (wipe σ vs) (upd H T (.tup [x, y])) fun σ2 H2 => wipe σ2 vs = wipe σ vs ∧ tt σ2 H2 fun b H3 =>
      if b = true then te σ2 H3 fun y H4 => ∃ acc, H4 D = some (.lst acc) ∧ acc.length < sizeLine ∧ Pv (i + 1) (upd H4 D (.lst (acc ++ [y]))) else Pv (i + 1) H3) (hd : ∀ H, Pv xs.length H → Qd H) :
    ∃ W : Nat → Nat → Hp → Prop, (∃ m, W 0 m (upd H1 D (.lst []))) ∧ ∀ i m H, W i m H → ((RZ.ItzT K a b).stop i H ∧ Qd H) ∨ ((RZ.ItzT K a b).go i H ∧ ∃ Nx : Hp → Prop,
      (∀ H', Nx H' → ∃ m', m' < m ∧ W (i + 1) m' H') ∧ ∀ x H', (RZ.ItzT K a b).yld i H x H' → g x (wipe σ vs) H' fun σ2 H2 => wipe σ2 vs = wipe σ vs ∧ tt σ2 H2 fun b H3 =>
        if b = true then te σ2 H3 fun y H4 => ∃ acc, H4 D = some (.lst acc) ∧ acc.length < sizeLine ∧ Nx (upd H4 D (.lst (acc ++ [y]))) else Nx H3) := by
  refine ⟨fun i m H => m = xs.length - i ∧ i ≤ xs.length ∧ Pv i H, ⟨xs.length, by simp, Nat.zero_le _, h0⟩, ?_⟩
  rintro i m H ⟨rfl, hi, p⟩
  obtain ⟨qx, qy⟩ := hq i H p
  by_cases lt : i < xs.length
  · refine .inr ⟨⟨xs, ys, _, _, qx, qy, List.getElem?_eq_getElem lt, List.getElem?_eq_getElem (by omega)⟩, Pv (i + 1), fun H' p' => ⟨xs.length - (i + 1), by omega, rfl, lt, p'⟩, fun v H' w' => ?_⟩
    obtain ⟨T, x, y, rfl, hT, rfl, fx, fy⟩ := w'
    exact hs i x y T H (fx xs qx) (fy ys qy) p hT
  · have e : i = xs.length := by omega
    subst e
    exact .inl ⟨⟨xs, ys, qx, qy, .inl (Nat.le_refl _)⟩, hd H p⟩
end Fr

set_option Elab.async false
set_option linter.all false
set_option maxRecDepth 100000
namespace Fr
open PySem PySem.Spec PyProof.Rows L2
/-! a list that is made only to be shown -/
def tLstS (t : TA) : TE := fun σ H Q => t σ H fun xs H1 => xs.length ≤ sizeLine ∧ ∀ p, H1 p = none → p ≠ sysModules → Q (.ref p) (upd H1 p (.lst xs))
theorem pe_lstS {X : Cx} {es : List Expr} {t : TA} {pos : Pos} (h : PA X es t) : PE X (.List es pos) (tLstS t) := by
  refine ⟨fun pins s σ H Q I hq => wpAny_List_spliced (thn (h.run pos pins s σ H _ I hq) fun us s1 ⟨xs, H1, I1, r, z, q⟩ => ⟨by rw [← r.length]; exact z, ?_⟩)⟩
  refine ⟨.ref s1.heap.objs.size, _, I1.laid (o := .lst xs) (t' := s1.toks) (fun b u e => Heap.get?_push_of_some _ e) (Nat.le_refl _) ⟨z, us, 0, r, Heap.get?_push_size _ rfl⟩, rfl,
    q _ (I1.hok.fresh (Nat.le_refl _)) (Nat.ne_of_gt I1.big)⟩
def rShowS : List V → Hp → VK → Prop := fun as H Q => ∃ (d a : Addr) (b : Sd) (p : Addr) (vs : List V) (xs : List PyData), as = [.ref p] ∧ H p = some (.lst vs) ∧ p ≠ sysModules ∧ DtAll d a b H vs xs ∧
  PyData.showableAll xs = true ∧ (PyData.hasDictAll xs = true → hasLAll xs = false) ∧ PyData.depthAll xs ≤ 30 ∧ lens (PyData.shownAll xs) ≤ 1000000 ∧ Q (.str (PyData.list xs).shown) H
theorem call_showS {X : Cx} (gd : X.A.guards = some []) (hu : X.A.units + 64 < cLine) : CallR X (.builtin "repr") rShowS := by
  intro pins s σ H as us Q I r h
  obtain ⟨d, a, b, p, vs, xs, rfl, hp, np, ht, hs, hl, hd, hz, q⟩ := h
  obtain ⟨u, rfl, ru⟩ := vals1 r
  have ru : u = Value.ref p := ru
  subst ru
  obtain ⟨its, rv, ⟨o, m, ho, hc, _, hdat⟩, _⟩ := I.list (SqL.of hp)
  obtain ⟨as, hr, ha⟩ := Dt.readsAll I xs vs its ht rv
  refine repr_of_reads' (Reads.list ho hc hdat hr) (by simpa [PyData.showable] using hs) (fun h hm => ?_) gd ?_ (fun _ _ e => e) (fun h' u' tk hk => ⟨.str _, H, I.kept hk, ⟨u', rfl⟩, q⟩) ?_
  · rcases List.mem_cons.mp hm with z | z
    · exact np z.symm
    · exact ha (hl (by simpa [PyData.hasDict] using h)) z
  · simp only [PyData.depth]
    omega
  · simp only [PyData.shown]
    refine Nat.le_trans (listText_most _) ?_
    have : sizeLine = 16777216 := by decide
    omega
/-- two things in a list -/
theorem show2 {d a p : Addr} {b : Sd} {H : Hp} {v1 v2 : V} {x1 x2 : PyData} {Q : VK} (hp : H p = some (.lst [v1, v2])) (np : p ≠ sysModules) (t1 : Dt d a b H v1 x1) (t2 : Dt d a b H v2 x2)
    (g1 : Gd x1 100000 12) (g2 : Gd x2 100000 12) (pl : Pl x1) (q : Q (.str (PyData.list [x1, x2]).shown) H) : rShowS [.ref p] H Q := by
  have g := gdall_cons g1 (gdall_cons g2 (gdall_mono gdall_nil (Nat.le_refl _) (Nat.zero_le _)) (.inr plall_nil)) (.inl pl)
  exact ⟨d, a, b, p, _, _, rfl, hp, np, .cons t1 (.cons t2 .nil), g.sh, g.dl, by have := g.dp; omega, by have := g.ln; omega, q⟩
end Fr

set_option Elab.async false
set_option linter.all false
set_option maxRecDepth 100000
namespace Fr
open PySem PySem.Spec PyProof.Rows L2

def topS (i : Nat) : Stmt := PySem.Challenge.pw_fullrooms_k10_what_is_amiss.main.body.getD i (.Pass ⟨0, 0, 0, 0⟩)

abbrev sDeck : Stmt := topS 4
abbrev nDeck : List Str := ["_law_script", "_law_cells", "_law_cell"]
theorem cDeck : FnScope nDeck ["_law_script"] (defScope sDeck) :=
  ⟨rfl, rfl, rfl, by decide +kernel, rfl, by decide +kernel, by decide +kernel⟩

abbrev sNext : Stmt := topS 5
abbrev nNext : List Str := ["_law_deck_here", "_law_many", "_law_rest", "_law_cell", "_law_mixed"]
theorem cNext : FnScope nNext ["_law_deck_here", "_law_many"] (defScope sNext) :=
  ⟨rfl, rfl, rfl, by decide +kernel, rfl, by decide +kernel, by decide +kernel⟩

abbrev sOne : Stmt := topS 6
abbrev nOne : List Str := ["_law_deck_here", "_law_some"]
theorem cOne : FnScope nOne ["_law_deck_here", "_law_some"] (defScope sOne) :=
  ⟨rfl, rfl, rfl, by decide +kernel, rfl, by decide +kernel, by decide +kernel⟩

section
variable {P : Program} {w : World} {K : PySem.W.Frag} {mg : Str → Option Value} {base : Heap}
def spNext : Sp := fun vs H Q _ => ∃ (d a : Addr) (b : Sd) (m : Int) (c : Nat), vs = [.ref d, .int m] ∧ Deck d a b H c ∧ 0 < m ∧ m < 2 ^ 100 ∧ c < 2 ^ 30 ∧
  ∀ H' r, Deck d a b H' (c + 1) → Kp d a b H H' → 0 ≤ r → r < m → Q (.int r) H'
theorem upd_sd {l : Option Addr} {H : Hp} {p : Addr} {u : HO} (h : ∀ y, l = some y → ∃ o, H y = some o) : ∀ y, l = some y → ∃ o, (upd H p u) y = some o := fun y hy => by
  by_cases e : y = p
  · exact ⟨u, by rw [e]; exact upd_same⟩
  · rw [upd_ne e]
    exact h y hy
theorem small100 {m : Int} (h0 : 0 < m) (h : m < 2 ^ 100) : CDivW i m := wide_div (b := 100) h0 (by omega) (by decide) (by decide)
theorem ok_next {f : Addr} {fd : FuncData} {k : Nat} (F : Fun K "_law_next" "_law_next" sNext f fd) (m_len : mg "len" = none) :
    FnOk P w K mg base CX0 (k + 1) f fd ["_law_deck_here", "_law_many"] spNext := by
  refine F.ok cNext (fun vs H Q E h => ?_) (fun cdv A outer s H vs Q E hr h => ?_)
  · obtain ⟨d, a, b, m, c, rfl, _⟩ := h
    rfl
  · obtain ⟨d, a, b, m, c, rfl, D, m0, m1, hc, q⟩ := h
    refine ⟨_, (pss_cons (ps_while PassesOwn.never (pt_cmpR (op_neD hr.units) (pe_ix ix_list (pv 0) pe_int (fun _ _ => rfl)) (pe_lst pa_nil) (nomark _)) (pss_cons (ps_set (i := 2) cNext.nd rfl (.inl rfl) (pe_ix ix_list (pe_ix ix_list (pv 0) pe_int (fun _ _ => rfl)) pe_int (fun _ _ => rfl)))
        (pss_cons (ps_if (pt_cmpR op_gt (pv 2) pe_int (nomark _)) (pss_cons (ps_asg (pe_op op_fdivW (pv 2) (pv 1)) (pg_sub (pe_ix ix_list (pv 0) pe_int (fun _ _ => rfl)) pe_int set_list))
        (pss_one (ps_ret (pe_op op_mod (pv 2) (pv 1))))) pss_nil)
        (pss_one (ps_expr (pe_bm PySem.F.plainAttrs_list PySem.F.slot_list_pop PySem.F.type_list_pop mt_popAt (pe_ix ix_list (pv 0) pe_int (fun _ _ => rfl)) (pa_cons pe_int pa_nil)))))))
        (pss_cons (ps_asg (pe_op op_add (pe_ix ix_list (pv 0) pe_int (fun _ _ => rfl)) pe_int) (pg_sub (pv 0) pe_int set_list))
        (pss_cons (ps_set (i := 3) cNext.nd rfl (.inl rfl) (pe_op op_mod (pe_ix ix_list (pe_ix ix_list (pv 0) pe_int (fun _ _ => rfl)) (pe_op op_mod (pe_ix ix_list (pv 0) pe_int (fun _ _ => rfl)) (pe_callB call_len_seq (by rfl) m_len PySem.boot_len (pa_cons (pe_ix ix_list (pv 0) pe_int (fun _ _ => rfl)) pa_nil))) (fun _ _ => rfl)) pe_int))
        (pss_cons (ps_set (i := 4) cNext.nd rfl (.inl rfl) (pe_op op_add (pe_op op_add (pe_op op_mul (pv 3) (pe_op op_add pe_int (pe_op op_mul pe_int (pe_ix ix_list (pv 0) pe_int (fun _ _ => rfl))))) (pe_op op_mul (pe_op op_mul pe_int (pe_ix ix_list (pv 0) pe_int (fun _ _ => rfl))) (pe_ix ix_list (pv 0) pe_int (fun _ _ => rfl)))) pe_int))
        (pss_cons (ps_set (i := 4) cNext.nd rfl (.inl rfl) (pe_op op_mod (pv 4) pe_int))
        (pss_one (ps_ret (pe_op op_mod (pe_op op_fdivW (pe_op op_mod (pe_op op_mul (pv 4) (pv 4)) pe_int) pe_int) (pv 1))))))))), ?_⟩
    have nda := D.da
    have ndb := D.db
    have nab := D.ne
    -- the while
    refine ⟨fun z σ H2 => ∃ (y2 y3 y4 : Option V) (big cells : List Int) (n : Int), σ = [some (.ref d), some (.int m), y2, y3, y4] ∧ z = big.length ∧
      H2 d = some (.lst [.ref a, .ref b.b, .int n]) ∧ H2 a = some (.lst (big.map V.int)) ∧ H2 b.b = some (.lst (cells.map V.int)) ∧ big.length ≤ 63 ∧ (∀ z ∈ big, 0 ≤ z) ∧
      0 < cells.length ∧ cells.length ≤ 64 ∧ (∀ z ∈ cells, 0 ≤ z) ∧ 0 ≤ n ∧ n ≤ (c : Int) ∧ Kp d a b H H2 ∧ (∀ y, b.l = some y → ∃ o, H2 y = some o), ?_, fun z σ H2 hW => ?_⟩
    · obtain ⟨big, cells, n, h1, h2, h3, r⟩ := D.ex
      exact ⟨big.length, none, none, none, big, cells, n, rfl, rfl, h1, h2, h3, r.1, r.2.1, r.2.2.1, r.2.2.2.1, r.2.2.2.2.1, r.2.2.2.2.2.1, r.2.2.2.2.2.2, Kp.refl, D.sd⟩
    · obtain ⟨y2, y3, y4, big, cells, n, rfl, rfl, h1, h2, h3, l1, p1, l0, l2, p2, n0, nc, kp, sd⟩ := hW
      -- deck[0] != []
      refine ⟨.ref d, rfl, d, _, 0, .ref a, rfl, rfl, SqL.of h1, at0, Nat.zero_le _, fun e ne => ?_⟩
      have sm : Same H2 (upd H2 e (.lst [])) := same_new ne
      have g1 := sm _ _ h1
      have g2 := sm _ _ h2
      have g3 := sm _ _ h3
      refine ⟨.list (big.map PyData.int), .list [], .lst (SqL.of g2) (dp_ints big), .lst (SqL.of upd_same) .nil, shaped_ints _, shaped_nil, _, rfl, ?_⟩
      rw [eqv_nil]
      have kp2 : Kp d a b H (upd H2 e (.lst [])) := kp.trans (Kp.of sm)
      have sd2 : ∀ y, b.l = some y → ∃ o, (upd H2 e (.lst [])) y = some o := fun y hy => let ⟨o, h⟩ := sd y hy; ⟨o, sm _ _ h⟩
      generalize upd H2 e (.lst []) = H3 at g1 g2 g3 kp2 sd2
      cases big with
      | cons x r =>
        refine iteT ?_
        have x0 : 0 ≤ x := p1 x List.mem_cons_self
        refine ⟨fun σ' H' => ∃ (y2 y3 y4 : Option V) (cells : List Int) (n : Int), σ' = [some (.ref d), some (.int m), y2, y3, y4] ∧
            H' d = some (.lst [.ref a, .ref b.b, .int n]) ∧ H' a = some (.lst (r.map V.int)) ∧ H' b.b = some (.lst (cells.map V.int)) ∧ r.length ≤ 63 ∧ (∀ z ∈ r, 0 ≤ z) ∧
            0 < cells.length ∧ cells.length ≤ 64 ∧ (∀ z ∈ cells, 0 ≤ z) ∧ 0 ≤ n ∧ n ≤ (c : Int) ∧ Kp d a b H H' ∧ (∀ y, b.l = some y → ∃ o, H' y = some o), fun σ' H' hN => ?_, ?_⟩
        · obtain ⟨y2, y3, y4, cells, n, e1, t⟩ := hN
          exact ⟨r.length, Nat.lt_succ_self _, y2, y3, y4, r, cells, n, e1, rfl, t⟩
        · -- rest = deck[0][0]
          refine ⟨.ref d, rfl, d, _, 0, .ref a, rfl, rfl, SqL.of g1, at0, a, _, 0, .int x, rfl, rfl, SqL.of g2, at0, ?_⟩
          -- if rest > 0
          refine ⟨.int x, rfl, x, 0, rfl, rfl, _, rfl, ite2 (fun hx => ?_) (fun hx => ?_)⟩
          · have hx : 0 < x := of_decide_eq_true hx
            refine ⟨.int x, rfl, .int m, rfl, x, m, rfl, rfl, small100 m0 m1, .ref d, rfl, d, _, 0, .ref a, rfl, rfl, SqL.of g1, at0, a, _, 0, 0, rfl, rfl, g2, ix_first, ?_⟩
            refine ⟨.int x, rfl, .int m, rfl, x, m, rfl, rfl, m0, ?_⟩
            refine q _ _ ⟨⟨x / m :: r, cells, n, ?_, ?_, ?_, l1, ?_, l0, l2, p2, n0, by omega⟩, nab, upd_sd sd2⟩ ⟨fun y o hy hn => ?_⟩ (Int.emod_nonneg _ (by omega)) (Int.emod_lt_of_pos _ m0)
            · rw [upd_ne nda]; exact g1
            · rw [upd_same]; rfl
            · rw [upd_ne nab.symm]; exact g3
            · intro z hz
              rcases List.mem_cons.mp hz with e1 | e1
              · rw [e1]; exact Int.ediv_nonneg x0 (by omega)
              · exact p1 z (List.mem_cons_of_mem _ e1)
            · rw [upd_ne fun z => hn (.inr (.inl z))]
              exact kp2.run y o hy hn
          · -- deck[0].pop(0)
            refine ⟨.ref d, rfl, d, _, 0, .ref a, rfl, rfl, SqL.of g1, at0, .inl ⟨rfl, _, SqL.of g2⟩, a, _, 0, 0, .int x, rfl, rfl, g2, by decide, by decide, ?_, rfl, ?_⟩
            · have e1 : (0 : Int) < (((x :: r).map V.int).length : Int) := by
                rw [List.length_map, List.length_cons]
                omega
              simp [seqIndex?]
            · refine ⟨some (.int x), y3, y4, cells, n, rfl, ?_, ?_, ?_, by rw [List.length_cons] at l1; omega, fun z hz => p1 z (List.mem_cons_of_mem _ hz), l0, l2, p2, n0, nc, ⟨fun y o hy hn => ?_⟩, upd_sd sd2⟩
              · rw [upd_ne nda]; exact g1
              · rw [upd_same]; rfl
              · rw [upd_ne nab.symm]; exact g3
              · rw [upd_ne fun z => hn (.inr (.inl z))]
                exact kp2.run y o hy hn
      | nil =>
        refine iteF ?_
        -- deck[2] = deck[2] + 1
        refine ⟨.ref d, rfl, d, _, 2, .int n, rfl, rfl, SqL.of g1, at2, n, 1, rfl, rfl, .ref d, rfl, d, _, 2, 2, rfl, rfl, g1, rfl, ?_⟩
        have f1 : upd H3 d (.lst ([.ref a, .ref b.b, .int n].set 2 (.int (n + 1)))) d = some (.lst [.ref a, .ref b.b, .int (n + 1)]) := upd_same
        have f2 : upd H3 d (.lst ([.ref a, .ref b.b, .int n].set 2 (.int (n + 1)))) a = some (.lst []) := by
          rw [upd_ne nda.symm]; exact g2
        have f3 : upd H3 d (.lst ([.ref a, .ref b.b, .int n].set 2 (.int (n + 1)))) b.b = some (.lst (cells.map V.int)) := by
          rw [upd_ne ndb.symm]; exact g3
        have kp3 : Kp d a b H (upd H3 d (.lst ([.ref a, .ref b.b, .int n].set 2 (.int (n + 1))))) := ⟨fun y o hy hn => by
          rw [upd_ne fun z => hn (.inl z)]
          exact kp2.run y o hy hn⟩
        have sd3 : ∀ y, b.l = some y → ∃ o, (upd H3 d (.lst ([.ref a, .ref b.b, .int n].set 2 (.int (n + 1))))) y = some o := upd_sd sd2
        generalize upd H3 d (.lst ([.ref a, .ref b.b, .int n].set 2 (.int (n + 1)))) = H4 at f1 f2 f3 kp3 sd3
        have dk : Deck d a b H4 (c + 1) := ⟨⟨[], cells, n + 1, f1, f2, f3, Nat.zero_le _, by simp, l0, l2, p2, by omega, by omega⟩, nab, sd3⟩
        -- the cell
        have hl : ((cells.map V.int).length : Int) = (cells.length : Int) := by rw [List.length_map]
        have r0 : 0 ≤ (n + 1) % (cells.length : Int) := Int.emod_nonneg _ (by omega)
        have r1 : (n + 1) % (cells.length : Int) < (cells.length : Int) := Int.emod_lt_of_pos _ (by omega)
        obtain ⟨j, ej⟩ : ∃ j : Nat, (n + 1) % (cells.length : Int) = (j : Int) := ⟨_, (Int.toNat_of_nonneg r0).symm⟩
        have hj : j < cells.length := by omega
        have gj : (cells.map V.int)[j]? = some (.int cells[j]) := by
          rw [List.getElem?_map, List.getElem?_eq_getElem hj]
          rfl
        refine ⟨.ref d, rfl, d, _, 1, .ref b.b, rfl, rfl, SqL.of f1, at1, .ref d, rfl, d, _, 2, .int (n + 1), rfl, rfl, SqL.of f1, at2, .ref d, rfl, d, _, 1, .ref b.b, rfl, rfl, SqL.of f1, at1,
          b.b, _, rfl, .inl (SqL.of f3), n + 1, _, rfl, rfl, ?_, b.b, _, _, .int cells[j], rfl, rfl, SqL.of f3, ?_, cells[j], 2147483647, rfl, rfl, (by show (0 : Int) < 2147483647; decide), ?_⟩
        · show (0 : Int) < ((cells.map V.int).length : Int)
          rw [hl]; omega
        · rw [hl, ej]
          exact atI_nat gj
        have c0 : 0 ≤ cells[j] % 2147483647 := Int.emod_nonneg _ (by decide)
        have c1 : cells[j] % 2147483647 < 2147483647 := Int.emod_lt_of_pos _ (by decide)
        obtain ⟨cell, ec⟩ : ∃ z, z = cells[j] % 2147483647 := ⟨_, rfl⟩
        rw [← ec] at c0 c1
        simp only [← ec]
        -- mixed
        refine ⟨.int cell, rfl, .ref d, rfl, d, _, 2, .int (n + 1), rfl, rfl, SqL.of f1, at2, 69621, n + 1, rfl, rfl, .inl ⟨by decide, by decide⟩, 48271, _, rfl, rfl, cell, _, rfl, rfl, .inl ⟨by omega, by omega⟩,
          .ref d, rfl, d, _, 2, .int (n + 1), rfl, rfl, SqL.of f1, at2, 40692, n + 1, rfl, rfl, .inl ⟨by decide, by decide⟩, .ref d, rfl, d, _, 2, .int (n + 1), rfl, rfl, SqL.of f1, at2,
          _, n + 1, rfl, rfl, .inr ⟨by omega, by omega⟩, _, _, rfl, rfl, _, 11, rfl, rfl, ?_⟩
        refine ⟨_, rfl, _, 2147483629, rfl, rfl, (by show (0 : Int) < 2147483629; decide), ?_⟩
        have b0 : 0 ≤ (cell * (48271 + 69621 * (n + 1)) + 40692 * (n + 1) * (n + 1) + 11) % 2147483629 := Int.emod_nonneg _ (by decide)
        have b1 : (cell * (48271 + 69621 * (n + 1)) + 40692 * (n + 1) * (n + 1) + 11) % 2147483629 < 2147483629 := Int.emod_lt_of_pos _ (by decide)
        obtain ⟨mixed, em⟩ : ∃ z, z = (cell * (48271 + 69621 * (n + 1)) + 40692 * (n + 1) * (n + 1) + 11) % 2147483629 := ⟨_, rfl⟩
        rw [← em] at b0 b1
        simp only [← em]
        refine ⟨.int mixed, rfl, .int mixed, rfl, mixed, mixed, rfl, rfl, .inl ⟨by omega, by omega⟩, _, 2147483587, rfl, rfl, (by show (0 : Int) < 2147483587; decide), _, 16, rfl, rfl, wide_div (b := 5) (by decide) (by decide) (by decide) (by decide),
          .int m, rfl, _, m, rfl, rfl, m0, ?_⟩
        exact q _ _ dk kp3 (Int.emod_nonneg _ (by omega)) (Int.emod_lt_of_pos _ m0)
def spDeck (K : PySem.W.Frag) : Sp := fun vs H Q _ => ∃ (e : Addr) (ns : List Int), vs = [.ref e] ∧ SqL K H e (ns.map V.int) ∧ ns.length ≤ 63 ∧
  ∀ H' d a b, Same H H' → Deck d a b H' 0 → b.l = none → Q (.ref d) H'
def absI (z : Int) : Int := if z < 0 then -z else z
theorem absI_nn (z : Int) : 0 ≤ absI z := by
  unfold absI
  split <;> omega
theorem ok_deck {f : Addr} {fd : FuncData} {k : Nat} (F : Fun K "_law_deck" "_law_deck" sDeck f fd) (m_len : mg "len" = none) (m_abs : mg "abs" = none) :
    FnOk P w K mg base CX0 (k + 1) f fd ["_law_script"] (spDeck K) := by
  refine F.ok cDeck (fun vs H Q E h => ?_) (fun cdv A outer s H vs Q E hr h => ?_)
  · obtain ⟨e, ns, rfl, _⟩ := h
    rfl
  · obtain ⟨e, ns, rfl, hS, hl, q⟩ := h
    refine ⟨_, (pss_cons (ps_setLc (i := 1) (own := [("_law_cell", 2)]) (g := gName 2) (tt := tYes) rfl cDeck.nd rfl rfl (sw_true rfl rfl rfl (by decide +kernel)) (pi_list (pv 0)) (blkOk_by (N := nDeck) (sc := defScope sDeck) (by decide +kernel)) (fun _ _ _ _ _ => (pg_name (i := 2) cDeck.nd rfl (.inl rfl))) (fun _ _ _ _ _ => pts_nil) (fun _ _ _ _ _ => (pe_callB call_abs (by rfl) m_abs PyProof.Rows.boot_abs (pa_cons (pv 2) pa_nil))))
        (pss_one (ps_ret (pe_lst (pa_cons (pe_lc (own := [("_law_cell", 2)]) (g := gName 2)  rfl cDeck.nd (pi_list (pv 1)) (blkOk_by (N := nDeck) (sc := defScope sDeck) (by decide +kernel)) (fun _ _ _ _ _ => (pg_name (i := 2) cDeck.nd rfl (.inl rfl))) (fun _ _ _ _ _ => (pts_one (pt_cmpR op_ge (pv 2) (pe_op op_pow pe_int pe_int) (nomark _)))) (fun _ _ _ _ _ => (pv 2))) (pa_cons (pe_op op_cat (pv 1) (pe_lst (pa_cons (pe_op op_add (pe_callB call_len_seq (by rfl) m_len PySem.boot_len (pa_cons (pv 1) pa_nil)) pe_int) pa_nil))) (pa_cons pe_int pa_nil))))))), ?_⟩
    refine ⟨.ref e, rfl, e, rfl, ⟨_, hS⟩, fun D nD => lc_list (xs := ns.map V.int) (fun i H1 => Same H H1 ∧ H1 D = some (.lst (((ns.take i).map absI).map V.int)))
      ⟨same_new nD, upd_same⟩ (fun i H1 _ p => p.1.seq hS) (fun i x H1 hx p => ?_) (fun H1 p => ?_)⟩
    · obtain ⟨sm, hD⟩ := p
      rw [List.getElem?_map] at hx
      cases hi : ns[i]? with
      | none => rw [hi] at hx; cases hx
      | some z =>
        rw [hi] at hx
        have ex : V.int z = x := Option.some.inj hx
        subst ex
        refine ⟨rfl, .int z, rfl, z, rfl, _, hD, ?_, ?_, ?_⟩
        · rw [List.length_map, List.length_map, List.length_take]
          exact Nat.lt_of_le_of_lt (Nat.min_le_right _ _) (small1000 (by omega))
        · intro y o hy
          rw [upd_ne (ne_of_none hy nD)]
          exact sm y o hy
        · rw [upd_same, List.take_add_one, hi, List.map_append, List.map_append]
          rfl
    · obtain ⟨sm, hD⟩ := p
      rw [show List.take (ns.map V.int).length ns = ns by rw [List.length_map, List.take_length]] at hD
      -- the big ones
      refine ⟨.ref D, rfl, D, rfl, ⟨_, SqL.of hD⟩, fun B nB => lc_list (xs := (ns.map absI).map V.int) (fun i H2 => Same H1 H2 ∧ ∃ big : List Int, H2 B = some (.lst (big.map V.int)) ∧ big.length ≤ i ∧ ∀ z ∈ big, 0 ≤ z)
        ⟨same_new nB, [], upd_same, Nat.zero_le _, by simp⟩ (fun i H2 _ p => SqL.of (p.1 _ _ hD)) (fun i x H2 hx p => ?_) (fun H2 p => ?_)⟩
      · obtain ⟨sm2, big, hB, lb, pb⟩ := p
        rw [List.getElem?_map, List.getElem?_map] at hx
        cases hi : ns[i]? with
        | none => rw [hi] at hx; cases hx
        | some z =>
          rw [hi] at hx
          have ex : V.int (absI z) = x := Option.some.inj hx
          subst ex
          have hli : i < ns.length := (List.getElem?_eq_some_iff.mp hi).1
          refine ⟨rfl, .int (absI z), rfl, 10, 18, rfl, rfl, ⟨by decide, by decide, by decide⟩, absI z, _, rfl, rfl, _, rfl, ite2 (fun _ => ?_) (fun _ => ?_)⟩
          · refine ⟨.int (absI z), rfl, _, hB, ?_, ?_, big ++ [absI z], ?_, ?_, ?_⟩
            · rw [List.length_map]
              exact small1000 (by omega)
            · intro y o hy
              rw [upd_ne (ne_of_none hy nB)]
              exact sm2 y o hy
            · rw [upd_same, List.map_append]
              rfl
            · rw [List.length_append, List.length_singleton]
              omega
            · intro y hy
              rcases List.mem_append.mp hy with r | r
              · exact pb y r
              · rw [List.mem_singleton.mp r]
                exact absI_nn z
          · exact ⟨sm2, big, hB, by omega, pb⟩
      · obtain ⟨sm2, big, hB, lb, pb⟩ := p
        have hD2 := sm2 _ _ hD
        have nBD : B ≠ D := (ne_of_none hD nB).symm
        -- cells + [len(cells) + 3]
        refine ⟨.ref D, rfl, .ref D, rfl, D, _, rfl, .inl (SqL.of hD2), _, 3, rfl, rfl, (by show 1 ≤ sizeLine; decide), fun L nL => ?_⟩
        have sm3 : Same H2 (upd H2 L (.lst [.int (((ns.map absI).map V.int).length + 3)])) := same_new nL
        have nLB : B ≠ L := ne_of_none hB nL
        refine ⟨D, L, _, _, rfl, rfl, sm3 _ _ hD2, upd_same, ?_, fun C nC => ?_⟩
        · rw [List.length_map, List.length_map]
          exact Nat.le_of_lt (small1000 (by show ns.length + 1 ≤ 1000; omega))
        · generalize upd H2 L (.lst [.int (((ns.map absI).map V.int).length + 3)]) = H3 at sm3 nC
          have sm4 := same_new (o := .lst ((ns.map absI).map V.int ++ [.int (((ns.map absI).map V.int).length + 3)])) nC
          have hB3 := sm3 _ _ hB
          have nBC : B ≠ C := ne_of_none hB3 nC
          refine ⟨(by show 3 ≤ sizeLine; decide), fun d nd => ?_⟩
          have sm5 := same_new (o := .lst [.ref B, .ref C, .int 0]) nd
          refine q _ d B ⟨C, none⟩ (sm.trans (sm2.trans (sm3.trans (sm4.trans sm5)))) ⟨⟨big, (ns.map absI) ++ [(ns.length : Int) + 3], 0, upd_same, sm5 _ _ (sm4 _ _ hB3), ?_, ?_, pb, ?_, ?_, ?_, by decide, by decide⟩, nBC, fun y hy => nomatch hy⟩ rfl
          · rw [sm5 C _ upd_same, List.map_append, List.length_map, List.length_map]
            rfl
          · rw [List.length_map, List.length_map] at lb
            omega
          · rw [List.length_append, List.length_singleton]
            omega
          · rw [List.length_append, List.length_singleton, List.length_map]
            omega
          · intro z hz
            rcases List.mem_append.mp hz with r | r
            · obtain ⟨y, _, rfl⟩ := List.mem_map.mp r
              exact absI_nn y
            · rw [List.mem_singleton.mp r]
              omega
def spOne : Sp := fun vs H Q _ => ∃ (d a : Addr) (b : Sd) (p : Addr) (xs : List V) (c : Nat), vs = [.ref d, .ref p] ∧ Deck d a b H c ∧ H p = some (.lst xs) ∧ ¬ Own d a b p ∧ xs ≠ [] ∧ xs.length ≤ 1000 ∧ c < 2 ^ 30 ∧
  ∀ H' x, Deck d a b H' (c + 1) → Kp d a b H H' → x ∈ xs → Q x H'
theorem ok_one {f : Addr} {fd : FuncData} {k j : Nat} (F : Fun K "_law_one" "_law_one" sOne f fd) (m_len : mg "len" = none)
    (Cn : Callee P w K mg base j "_law_next" ["_law_deck_here", "_law_many"] spNext) (hj : j ≤ k) :
    FnOk P w K mg base CX0 (k + 1) f fd ["_law_deck_here", "_law_some"] spOne := by
  refine F.ok cOne (fun vs H Q E h => ?_) (fun cdv A outer s H vs Q E hr h => ?_)
  · obtain ⟨d, a, b, p, xs, c, rfl, _⟩ := h
    rfl
  · obtain ⟨d, a, b, p, xs, c, rfl, D, hp, np, x0, xl, hc, q⟩ := h
    have lp : 0 < xs.length := List.length_pos_iff.mpr x0
    have hr := hr.mono hj
    refine ⟨_, (pss_one (ps_ret (pe_ix ix_list (pv 1) (pe_u Cn hr (by rfl) (pa_cons (pv 0) (pa_cons (pe_callB call_len_seq (by rfl) m_len PySem.boot_len (pa_cons (pv 1) pa_nil)) pa_nil))) (fun _ _ => rfl)))), ?_⟩
    refine ⟨.ref p, rfl, .ref d, rfl, .ref p, rfl, p, xs, rfl, .inl (SqL.of hp), d, a, b, _, c, rfl, D, ?_, ?_, hc, fun H' r D' kp r0 r1 => ?_⟩
    · show (0 : Int) < (xs.length : Int)
      omega
    · show (xs.length : Int) < 2 ^ 100
      exact Int.lt_of_le_of_lt (show (xs.length : Int) ≤ 1000 by omega) (by decide)
    · obtain ⟨i, ei⟩ : ∃ i : Nat, r = (i : Int) := ⟨_, (Int.toNat_of_nonneg r0).symm⟩
      have hi : i < xs.length := by omega
      exact ⟨p, xs, r, xs[i], rfl, rfl, SqL.of (kp _ _ hp np), by rw [ei]; exact atI_nat (List.getElem?_eq_getElem hi), q H' _ D' kp (List.getElem_mem hi)⟩
end

end Fr

set_option Elab.async false
set_option linter.all false
set_option maxRecDepth 100000
namespace Fr
open PySem PySem.Spec PyProof.Rows L2

theorem iteB {c : Bool} {A B : Prop} (h1 : c = true → A) (h2 : c = false → B) : if c = true then A else B := by
  cases c with
  | true => exact iteT (h1 rfl)
  | false => exact iteF (h2 rfl)
theorem iteNB {c : Bool} {A B : Prop} (h1 : c = false → A) (h2 : c = true → B) : if (!c) = true then A else B := by
  cases c with
  | true => exact iteF (h2 rfl)
  | false => exact iteT (h1 rfl)
/-- a house at h, its sizes at z -/
structure Hs (H : Hp) (h z : Addr) (sizes : List Int) (kinds : Int) : Prop where
  h : H h = some (.tup [.ref z, .int kinds])
  z : H z = some (.tup (sizes.map V.int))
theorem Hs.same {H H' : Hp} {h z : Addr} {sizes : List Int} {kinds : Int} (x : Hs H h z sizes kinds) (s : Same H H') : Hs H' h z sizes kinds := ⟨s _ _ x.h, s _ _ x.z⟩
theorem Hs.keep {d a : Addr} {b : Sd} {H H' : Hp} {h z : Addr} {sizes : List Int} {kinds : Int} (x : Hs H h z sizes kinds) (k : Kp d a b H H') (n1 : ¬ Own d a b h) (n2 : ¬ Own d a b z) : Hs H' h z sizes kinds := ⟨k _ _ x.h n1, k _ _ x.z n2⟩
def ieq : PyData → PyData → Bool
  | .int i, .int j => decide (i = j)
  | _, _ => false
def deedB (kn rm : Int) : PyData → Bool
  | .tuple [k, h, t] => inR 0 (kn - 1) k && (inR 0 (rm - 1) h && (inR 0 (rm - 1) t && !ieq h t))
  | _ => false
theorem of_inR {d a : Addr} {b : Sd} {H : Hp} {v : V} {x : PyData} {lo hi : Int} (h : Dt d a b H v x) (w : inR lo hi x = true) : ∃ i, v = .int i ∧ x = .int i ∧ lo ≤ i ∧ i ≤ hi := by
  cases h with
  | int i =>
    simp only [inR, Bool.and_eq_true, decide_eq_true_eq] at w
    exact ⟨i, rfl, rfl, w.1, w.2⟩
  | _ => cases w
def spWhole : Sp := fun vs H Q _ => ∃ (d a : Addr) (b : Sd) (v : V) (x : PyData), vs = [v] ∧ Dt d a b H v x ∧ Q (.bl (isW x)) H
def spFrom : Sp := fun vs H Q _ => ∃ (d a : Addr) (b : Sd) (v : V) (x : PyData) (lo hi : Int), vs = [v, .int lo, .int hi] ∧ Dt d a b H v x ∧ Q (.bl (inR lo hi x)) H
def spKind : Sp := fun vs H Q _ => ∃ (d a : Addr) (b : Sd) (h z : Addr) (sizes : List Int) (kinds : Int) (v : V) (x : PyData), vs = [.ref h, v] ∧ Hs H h z sizes kinds ∧ Dt d a b H v x ∧ Q (.bl (inR 0 (kinds - 1) x)) H
def spRoom : Sp := fun vs H Q _ => ∃ (d a : Addr) (b : Sd) (h z : Addr) (sizes : List Int) (kinds : Int) (v : V) (x : PyData), vs = [.ref h, v] ∧ Hs H h z sizes kinds ∧ Dt d a b H v x ∧ Q (.bl (inR 0 ((sizes.length : Int) - 1) x)) H
def spIsDeed : Sp := fun vs H Q _ => ∃ (d a : Addr) (b : Sd) (h z : Addr) (sizes : List Int) (kinds : Int) (v : V) (x : PyData), vs = [.ref h, v] ∧ Hs H h z sizes kinds ∧ Dt d a b H v x ∧
  ∀ H', Same H H' → Q (.bl (deedB kinds (sizes.length : Int) x)) H'
section
variable {P : Program} {w : World} {K : PySem.W.Frag} {mg : Str → Option Value} {base : Heap}
abbrev sHouse : Stmt := topS 9
abbrev nHouse : List Str := ["_law_deck_here", "_law_rooms", "_law_kinds", "_law_sizes", "_law_room"]
theorem cHouse : FnScope nHouse ["_law_deck_here", "_law_rooms", "_law_kinds"] (defScope sHouse) :=
  ⟨rfl, rfl, rfl, by decide +kernel, rfl, by decide +kernel, by decide +kernel⟩

def spHouse : Sp := fun vs H Q _ => ∃ (d a : Addr) (b : Sd) (rooms kinds : Int) (c : Nat), vs = [.ref d, .int rooms, .int kinds] ∧ Deck d a b H c ∧ 0 ≤ rooms ∧ rooms ≤ 9 ∧ c + 20 < 2 ^ 30 ∧
  ∀ H' h z sizes, Deck d a b H' (c + 20) → Kp d a b H H' → Hs H' h z sizes kinds → ¬ Own d a b h → ¬ Own d a b z → sizes.length = rooms.toNat → (∀ s ∈ sizes, 1 ≤ s ∧ s ≤ 10 ^ 12) → Q (.ref h) H'
theorem ok_house {f : Addr} {fd : FuncData} {k j : Nat} (F : Fun K "_law_house" "_law_house" sHouse f fd) (m_range : mg "range" = none) (m_tuple : mg "tuple" = none)
    (Cn : Callee P w K mg base j "_law_next" ["_law_deck_here", "_law_many"] spNext) (Co : Callee P w K mg base j "_law_one" ["_law_deck_here", "_law_some"] spOne) (hj : j ≤ k) :
    FnOk P w K mg base CX0 (k + 1) f fd ["_law_deck_here", "_law_rooms", "_law_kinds"] spHouse := by
  refine F.ok cHouse (fun vs H Q E h => ?_) (fun cdv A outer s H vs Q E hr h => ?_)
  · obtain ⟨d, a, b, rooms, kinds, c, rfl, _⟩ := h
    rfl
  · obtain ⟨d, a, b, rooms, kinds, c, rfl, D, r0, r9, hc, q⟩ := h
    have hr := hr.mono hj
    refine ⟨_, (pss_cons (ps_set (i := 3) cHouse.nd rfl (.inl rfl) (pe_lst pa_nil))
        (pss_cons (ps_for PassesOwn.never rfl (pi_range1 (by rfl) m_range (pa_cons (pv 1) pa_nil)) (pg_name (i := 4) cHouse.nd rfl (.inl rfl)) (pss_one (ps_expr (pe_bm PySem.F.plainAttrs_list PySem.F.slot_list_append PySem.F.type_list_append mt_append (pv 3) (pa_cons (pe_op op_add pe_int (pe_u Cn hr (by rfl) (pa_cons (pv 0) (pa_cons (pe_u Co hr (by rfl) (pa_cons (pv 0) (pa_cons (pe_lst (pa_cons pe_int (pa_cons pe_int (pa_cons pe_int (pa_cons (pe_op op_pow pe_int pe_int) pa_nil))))) pa_nil))) pa_nil)))) pa_nil)))))
        (pss_one (ps_ret (pe_tup (pa_cons (pe_callTy call_tuple_of (by rfl) m_tuple PyProof.Rows.boot_tuple (pa_cons (pv 3) pa_nil)) (pa_cons (pv 2) pa_nil))))))), ?_⟩
    refine ⟨Nat.zero_le _, fun p np => ?_⟩
    have op : ¬ Own d a b p := D.fresh np
    refine ⟨.int rooms, rfl, rooms, rfl, by omega, by omega, for_range (n := rooms.toNat) (fun i σ H1 => ∃ (y : Option V) (sizes : List Int), σ = [some (.ref d), some (.int rooms), some (.int kinds), some (.ref p), y] ∧
      Deck d a b H1 (c + 2 * i) ∧ Kp d a b H H1 ∧ H1 p = some (.lst (sizes.map V.int)) ∧ sizes.length = i ∧ ∀ s ∈ sizes, 1 ≤ s ∧ s ≤ 10 ^ 12)
      ⟨none, [], rfl, D.new np, Kp.new np, upd_same, rfl, by simp⟩ (fun i σ H1 hi hP => ?_) (fun σ H1 hP => ?_)⟩
    · obtain ⟨y, sizes, rfl, D1, kp1, hp, hl, hs⟩ := hP
      refine ⟨.ref p, rfl, .inl ⟨rfl, _, SqL.of hp⟩, .ref d, rfl, .ref d, rfl, 10, 12, rfl, rfl, ⟨by decide, by decide, by decide⟩, (by show 4 ≤ sizeLine; decide), fun l nl => ?_⟩
      refine ⟨d, a, b, l, _, c + 2 * i, rfl, D1.new nl, upd_same, D1.fresh nl, by simp, (by show 4 ≤ 1000; decide), by omega, fun H2 x D2 kp2 hx => ?_⟩
      have hm : ∃ m : Int, x = .int m ∧ 0 < m ∧ m ≤ 10 ^ 12 := by
        simp only [List.mem_cons, List.not_mem_nil, or_false] at hx
        rcases hx with e | e | e | e
        · exact ⟨1, e, by decide, by decide⟩
        · exact ⟨3, e, by decide, by decide⟩
        · exact ⟨9, e, by decide, by decide⟩
        · exact ⟨10 ^ 12, e, by decide, by decide⟩
      obtain ⟨m, rfl, m0, m1⟩ := hm
      refine ⟨d, a, b, m, _, rfl, D2, m0, Int.lt_of_le_of_lt m1 (by decide), by omega, fun H3 r D3 kp3 r0 r1 => ?_⟩
      have kp13 : Kp d a b H1 H3 := (Kp.new nl).trans (kp2.trans kp3)
      have hp3 := kp13 _ _ hp op
      refine ⟨1, r, rfl, rfl, p, _, _, rfl, rfl, hp3, ?_, some (.int (0 + i)), sizes ++ [1 + r], rfl, ?_, ?_, ?_, ?_, ?_⟩
      · rw [List.length_map]
        exact small1000 (by omega)
      · exact (D3.put (off op)).mono (by omega)
      · refine ⟨fun t o ht hn => ?_⟩
        rw [upd_ne (ne_of_none ht np)]
        exact kp13.run t o (kp1.run t o ht hn) hn
      · rw [upd_same, List.map_append]
        rfl
      · rw [List.length_append, List.length_singleton, hl]
      · intro t ht
        rcases List.mem_append.mp ht with e | e
        · exact hs t e
        · rw [List.mem_singleton.mp e]
          omega
    · obtain ⟨y, sizes, rfl, D1, kp1, hp, hl, hs⟩ := hP
      refine ⟨.ref p, rfl, p, _, rfl, .inl ⟨SqL.of hp, fun z nz => ⟨.int kinds, rfl, (by show 2 ≤ sizeLine; decide), fun h nh => ?_⟩⟩⟩
      have s1 := same_new (o := .tup (sizes.map V.int)) nz
      have s2 := same_new (o := .tup [.ref z, .int kinds]) nh
      have D2 := D1.new (o := .tup (sizes.map V.int)) nz
      exact q _ h z sizes ((D2.new nh).mono (by omega)) (kp1.trans ((Kp.of s1).trans (Kp.of s2))) ⟨upd_same, s2 _ _ upd_same⟩ (D2.fresh nh) (D1.fresh nz) hl hs
end

end Fr

set_option Elab.async false
set_option linter.all false
set_option maxRecDepth 100000
namespace Fr
open PySem PySem.Spec PyProof.Rows L2

section
variable {P : Program} {w : World} {K : PySem.W.Frag} {mg : Str → Option Value} {base : Heap}
abbrev sAmount : Stmt := topS 8
abbrev nAmount : List Str := ["_law_deck_here", "_law_high", "_law_few"]
theorem cAmount : FnScope nAmount ["_law_deck_here", "_law_high"] (defScope sAmount) :=
  ⟨rfl, rfl, rfl, by decide +kernel, rfl, by decide +kernel, by decide +kernel⟩

def spAmount : Sp := fun vs H Q _ => ∃ (d a : Addr) (b : Sd) (high : Int) (c : Nat), vs = [.ref d, .int high] ∧ Deck d a b H c ∧ 0 ≤ high ∧ high ≤ 10 ^ 13 ∧ c + 3 < 2 ^ 30 ∧
  ∀ H' r, Deck d a b H' (c + 3) → Kp d a b H H' → 0 ≤ r → r ≤ high → Q (.int r) H'
theorem ok_amount {f : Addr} {fd : FuncData} {k j : Nat} (F : Fun K "_law_amount" "_law_amount" sAmount f fd) (m_min : mg "min" = none)
    (Cn : Callee P w K mg base j "_law_next" ["_law_deck_here", "_law_many"] spNext) (hj : j ≤ k) :
    FnOk P w K mg base CX0 (k + 1) f fd ["_law_deck_here", "_law_high"] spAmount := by
  refine F.ok cAmount (fun vs H Q E h => ?_) (fun cdv A outer s H vs Q E hr h => ?_)
  · obtain ⟨d, a, b, high, c, rfl, _⟩ := h
    rfl
  · obtain ⟨d, a, b, high, c, rfl, D, h0, h1, hc, q⟩ := h
    have hr := hr.mono hj
    refine ⟨_, (pss_cons (ps_set (i := 2) cAmount.nd rfl (.inl rfl) (pe_u Cn hr (by rfl) (pa_cons (pv 0) (pa_cons (pe_op op_add (pe_callB (call_min2 rfl) (by rfl) m_min (by decide +kernel) (pa_cons (pv 1) (pa_cons pe_int pa_nil))) pe_int) pa_nil))))
        (pss_one (ps_ret (pe_ix ix_list (pe_lst (pa_cons (pv 2) (pa_cons (pe_op op_sub (pv 1) (pv 2)) (pa_cons (pe_u Cn hr (by rfl) (pa_cons (pv 0) (pa_cons (pe_op op_add (pv 1) pe_int) pa_nil))) pa_nil)))) (pe_u Cn hr (by rfl) (pa_cons (pv 0) (pa_cons pe_int pa_nil))) (fun _ _ => rfl))))), ?_⟩
    have hm : (if (3 : Int) < high then 3 else high) ≤ high ∧ 0 ≤ (if (3 : Int) < high then 3 else high) ∧ (if (3 : Int) < high then 3 else high) ≤ 3 := by
      split <;> omega
    refine ⟨.ref d, rfl, .int high, rfl, high, 3, rfl, _, 1, rfl, rfl, d, a, b, _, c, rfl, D, by omega, by omega, by omega, fun H1 r1 D1 kp1 r10 r11 => ?_⟩
    refine ⟨_, rfl, _, rfl, _, rfl, high, r1, rfl, rfl, .ref d, rfl, .int high, rfl, high, 1, rfl, rfl, d, a, b, _, _, rfl, D1, by omega, by omega, by omega, fun H2 r2 D2 kp2 r20 r21 => ?_⟩
    refine ⟨(by show 3 ≤ sizeLine; decide), fun L nL => ?_⟩
    have D3 := D2.new (o := .lst [.int r1, .int (high - r1), .int r2]) nL
    have oL := D2.fresh nL
    have kL : Kp d a b H2 (upd H2 L (.lst [.int r1, .int (high - r1), .int r2])) := Kp.new nL
    refine ⟨.ref d, rfl, d, a, b, 3, _, rfl, D3, by decide, by decide, by omega, fun H4 r4 D4 kp4 r40 r41 => ?_⟩
    have hL := kp4 _ _ (upd_same (H := H2) (a := L) (o := .lst [.int r1, .int (high - r1), .int r2])) oL
    have fin : ∀ r, 0 ≤ r → r ≤ high → Q (.int r) H4 := fun r a1 a2 => q H4 r D4 (kp1.trans (kp2.trans (kL.trans kp4))) a1 a2
    obtain ⟨m, rfl⟩ : ∃ m : Nat, r4 = (m : Int) := ⟨_, (Int.toNat_of_nonneg r40).symm⟩
    have hm3 : m < 3 := by omega
    match m, hm3 with
    | 0, _ => exact ⟨L, _, 0, _, rfl, rfl, SqL.of hL, atI_nat (j := 0) rfl, fin _ (by omega) (by omega)⟩
    | 1, _ => exact ⟨L, _, 1, _, rfl, rfl, SqL.of hL, atI_nat (j := 1) rfl, fin _ (by omega) (by omega)⟩
    | 2, _ => exact ⟨L, _, 2, _, rfl, rfl, SqL.of hL, atI_nat (j := 2) rfl, fin _ (by omega) (by omega)⟩
abbrev sRow : Stmt := topS 10
abbrev nRow : List Str := ["_law_deck_here", "_law_size", "_law_kinds", "_law_left", "_law_found", "_law_kind", "_law_first"]
theorem cRow : FnScope nRow ["_law_deck_here", "_law_size", "_law_kinds"] (defScope sRow) :=
  ⟨rfl, rfl, rfl, by decide +kernel, rfl, by decide +kernel, by decide +kernel⟩

def spRow : Sp := fun vs H Q _ => ∃ (d a : Addr) (b : Sd) (size kinds : Int) (c : Nat), vs = [.ref d, .int size, .int kinds] ∧ Deck d a b H c ∧ 0 ≤ size ∧ size ≤ 10 ^ 12 ∧ 1 ≤ kinds ∧ kinds ≤ 6 ∧ c + 40 < 2 ^ 30 ∧
  ∀ (H' : Hp) (p : Addr) (row : List Int), Deck d a b H' (c + 40) → Kp d a b H H' → H' p = some (.tup (row.map V.int)) → ¬ Own d a b p → row.length = kinds.toNat → (∀ x ∈ row, 0 ≤ x) → row.sum ≤ size → Q (.ref p) H'
theorem sum_nn {l : List Int} (h : ∀ x ∈ l, 0 ≤ x) : 0 ≤ l.sum := by
  induction l with
  | nil => exact Int.le_refl _
  | cons x l ih =>
    rw [List.sum_cons]
    have h1 := h x List.mem_cons_self
    have h2 := ih fun y hy => h y (List.mem_cons_of_mem _ hy)
    omega
theorem mem_le_sum {l : List Int} (h : ∀ x ∈ l, 0 ≤ x) {y : Int} (hy : y ∈ l) : y ≤ l.sum := by
  induction l with
  | nil => cases hy
  | cons x l ih =>
    rw [List.sum_cons]
    have h1 := h x List.mem_cons_self
    have hl : ∀ z ∈ l, 0 ≤ z := fun z hz => h z (List.mem_cons_of_mem _ hz)
    have h2 := sum_nn hl
    rcases List.mem_cons.mp hy with e | e
    · omega
    · have := ih hl e
      omega
theorem sum_rot (l : List Int) (n : Nat) : (l.drop n ++ l.take n).sum = l.sum := by
  rw [List.sum_append, Int.add_comm, ← List.sum_append, List.take_append_drop]
theorem ok_row {f : Addr} {fd : FuncData} {k j : Nat} (F : Fun K "_law_row" "_law_row" sRow f fd) (m_min : mg "min" = none) (m_range : mg "range" = none) (m_tuple : mg "tuple" = none)
    (Cn : Callee P w K mg base j "_law_next" ["_law_deck_here", "_law_many"] spNext) (Co : Callee P w K mg base j "_law_one" ["_law_deck_here", "_law_some"] spOne) (Ca : Callee P w K mg base j "_law_amount" ["_law_deck_here", "_law_high"] spAmount) (hj : j ≤ k) :
    FnOk P w K mg base CX0 (k + 1) f fd ["_law_deck_here", "_law_size", "_law_kinds"] spRow := by
  refine F.ok cRow (fun vs H Q E h => ?_) (fun cdv A outer s H vs Q E hr h => ?_)
  · obtain ⟨d, a, b, size, kinds, c, rfl, _⟩ := h
    rfl
  · obtain ⟨d, a, b, size, kinds, c, rfl, D, s0, s1, k0, k1, hc, q⟩ := h
    have hr := hr.mono hj
    refine ⟨_, (pss_cons (ps_set (i := 3) cRow.nd rfl (.inl rfl) (pe_u Co hr (by rfl) (pa_cons (pv 0) (pa_cons (pe_lst (pa_cons (pv 1) (pa_cons (pv 1) (pa_cons (pv 1) (pa_cons (pe_op op_sub (pv 1) (pe_u Cn hr (by rfl) (pa_cons (pv 0) (pa_cons (pe_op op_add (pe_callB (call_min2 rfl) (by rfl) m_min (by decide +kernel) (pa_cons (pv 1) (pa_cons pe_int pa_nil))) pe_int) pa_nil)))) (pa_cons (pe_u Ca hr (by rfl) (pa_cons (pv 0) (pa_cons (pv 1) pa_nil))) pa_nil)))))) pa_nil))))
        (pss_cons (ps_set (i := 4) cRow.nd rfl (.inl rfl) (pe_op op_rep (pe_lst (pa_cons pe_int pa_nil)) (pv 2)))
        (pss_cons (ps_for PassesOwn.never rfl (pi_range1 (by rfl) m_range (pa_cons (pv 2) pa_nil)) (pg_name (i := 5) cRow.nd rfl (.inl rfl)) (pss_cons (ps_asg (pe_ifExp (pt_cmpR op_lt (pv 5) (pe_op op_sub (pv 2) pe_int) (nomark _)) (pe_u Ca hr (by rfl) (pa_cons (pv 0) (pa_cons (pv 3) pa_nil))) (pv 3)) (pg_sub (pv 4) (pv 5) set_list))
        (pss_one (ps_set (i := 3) cRow.nd rfl (.inl rfl) (pe_op op_sub (pv 3) (pe_ix ix_list (pv 4) (pv 5) (fun _ _ => rfl)))))))
        (pss_cons (ps_set (i := 6) cRow.nd rfl (.inl rfl) (pe_u Cn hr (by rfl) (pa_cons (pv 0) (pa_cons (pv 2) pa_nil))))
        (pss_one (ps_ret (pe_callTy call_tuple_of (by rfl) m_tuple PyProof.Rows.boot_tuple (pa_cons (pe_op op_cat (pe_slice sl_list (pv 4) (po_some (pv 6)) po_none) (pe_slice sl_list (pv 4) po_none (po_some (pv 6)))) pa_nil)))))))), ?_⟩
    have hm : (if (2 : Int) < size then 2 else size) ≤ size ∧ 0 ≤ (if (2 : Int) < size then 2 else size) ∧ (if (2 : Int) < size then 2 else size) ≤ 2 := by
      split <;> omega
    refine ⟨.ref d, rfl, _, rfl, _, rfl, _, rfl, _, rfl, .ref d, rfl, .int size, rfl, size, 2, rfl, _, 1, rfl, rfl, d, a, b, _, c, rfl, D, by omega, by omega, by omega, fun H1 r1 D1 kp1 r10 r11 => ?_⟩
    refine ⟨size, r1, rfl, rfl, .ref d, rfl, _, rfl, d, a, b, size, _, rfl, D1, s0, by omega, by omega, fun H2 r2 D2 kp2 r20 r21 => ?_⟩
    refine ⟨(by show 5 ≤ sizeLine; decide), fun g ng => ?_⟩
    refine ⟨d, a, b, g, _, _, rfl, D2.new ng, upd_same, D2.fresh ng, by simp, (by show 5 ≤ 1000; decide), by omega, fun H3 v3 D3 kp3 hv3 => ?_⟩
    have k3 : Kp d a b H H3 := kp1.trans (kp2.trans ((Kp.new ng).trans kp3))
    obtain ⟨left0, rfl, lf0, lf1⟩ : ∃ m : Int, v3 = .int m ∧ 0 ≤ m ∧ m ≤ size := by
      have hv4 : v3 ∈ [V.int size, .int size, .int size, .int (size - r1), .int r2] := hv3
      simp only [List.mem_cons, List.not_mem_nil, or_false] at hv4
      rcases hv4 with e | e | e | e | e
      · exact ⟨_, e, by omega, by omega⟩
      · exact ⟨_, e, by omega, by omega⟩
      · exact ⟨_, e, by omega, by omega⟩
      · exact ⟨_, e, by omega, by omega⟩
      · exact ⟨_, e, by omega, by omega⟩
    -- [0] * kinds
    refine ⟨(by show 1 ≤ sizeLine; decide), fun z nz => ?_⟩
    have Dz := D3.new (o := .lst [.int 0]) nz
    refine ⟨.int kinds, rfl, z, kinds, _, rfl, rfl, upd_same, by omega, by omega, ?_, fun L nL => ?_⟩
    · show 1 * kinds.toNat ≤ sizeLine
      exact Nat.le_of_lt (small1000 (by omega))
    have e0 : (List.replicate kinds.toNat [V.int 0]).flatten = (List.replicate kinds.toNat (0 : Int)).map V.int := by
      rw [List.map_replicate]
      induction kinds.toNat with
      | zero => rfl
      | succ n ih => rw [List.replicate_succ, List.flatten_cons, ih, List.replicate_succ]; rfl
    rw [e0]
    have oL := Dz.fresh nL
    have DL := Dz.new (o := .lst ((List.replicate kinds.toNat (0 : Int)).map V.int)) nL
    have kL : Kp d a b H (upd (upd H3 z (.lst [.int 0])) L (.lst ((List.replicate kinds.toNat (0 : Int)).map V.int))) := k3.trans ((Kp.new nz).trans (Kp.new nL))
    have fL : upd (upd H3 z (.lst [.int 0])) L (.lst ((List.replicate kinds.toNat (0 : Int)).map V.int)) L = some (.lst ((List.replicate kinds.toNat (0 : Int)).map V.int)) := upd_same
    generalize upd (upd H3 z (.lst [.int 0])) L (.lst ((List.replicate kinds.toNat (0 : Int)).map V.int)) = H5 at DL kL fL
    have nLH : ∀ y o, H y = some o → ¬ Ow d a b y → y ≠ L := fun y o hy hn e => by
      have := k3.run y o hy hn
      have t2 := same_new (o := .lst [.int 0]) nz _ _ this
      rw [e, nL] at t2
      cases t2
    refine ⟨.int kinds, rfl, kinds, rfl, by omega, by omega, for_range (n := kinds.toNat) (fun i σ G => ∃ (y5 y6 : Option V) (left : Int) (l : List Int), σ = [some (.ref d), some (.int size), some (.int kinds), some (.int left), some (.ref L), y5, y6] ∧
      Deck d a b G (c + 5 + 3 * i) ∧ Kp d a b H G ∧ G L = some (.lst (l.map V.int)) ∧ l.length = kinds.toNat ∧ (∀ x ∈ l, 0 ≤ x) ∧ 0 ≤ left ∧ l.sum + left = left0 ∧ ∀ m, i ≤ m → l[m]? = some 0 ∨ l[m]? = none)
      ⟨none, none, left0, _, rfl, DL.mono (by omega), kL, fL, List.length_replicate, ?_, lf0, ?_, ?_⟩ (fun i σ G hi hP => ?_) (fun σ G hP => ?_)⟩
    · intro x hx
      rw [(List.mem_replicate.mp hx).2]
      exact Int.le_refl _
    · have : ∀ n : Nat, (List.replicate n (0 : Int)).sum = 0 := fun n => by
        induction n with
        | zero => rfl
        | succ n ih => rw [List.replicate_succ, List.sum_cons, ih]; rfl
      rw [this]
      omega
    · intro m _
      rw [List.getElem?_replicate]
      split
      · exact .inl rfl
      · exact .inr rfl
    · obtain ⟨y5, y6, left, l, rfl, DG, kG, fG, ll, nn, lf, ls, zs⟩ := hP
      have hil : i < l.length := by omega
      have li0 : l[i]? = some 0 := by
        rcases zs i (Nat.le_refl _) with e | e
        · exact e
        · rw [List.getElem?_eq_none_iff] at e
          omega
      -- behind the value
      have step : ∀ (G2 : Hp) (v : Int), Deck d a b G2 (c + 5 + 3 * i + 3) → Kp d a b G G2 → 0 ≤ v → v ≤ left →
          ixN (l.map V.int).length (0 + (i : Int)) = some i ∧ G2 L = some (.lst (l.map V.int)) ∧
          (∃ (l' : List Int), Deck d a b (upd G2 L (.lst ((l.map V.int).set i (.int v)))) (c + 5 + 3 * (i + 1)) ∧ Kp d a b H (upd G2 L (.lst ((l.map V.int).set i (.int v)))) ∧ (upd G2 L (.lst ((l.map V.int).set i (.int v)))) L = some (.lst (l'.map V.int)) ∧ l'.length = kinds.toNat ∧ (∀ x ∈ l', 0 ≤ x) ∧ 0 ≤ left - v ∧ l'.sum + (left - v) = left0 ∧ ∀ m, i + 1 ≤ m → l'[m]? = some 0 ∨ l'[m]? = none) := by
        intro G2 v D2 k2 v0 v1
        refine ⟨?_, k2 _ _ fG oL, l.set i v, (D2.put (off oL)).mono (by omega), ?_, ?_, ?_, ?_, ?_, ?_, ?_⟩
        · unfold ixN
          rw [if_pos (by omega), if_pos (by rw [List.length_map]; omega)]
          congr 1
          omega
        · refine ⟨fun y o hy hn => ?_⟩
          rw [upd_ne (nLH y o hy hn)]
          exact k2.run y o (kG.run y o hy hn) hn
        · rw [upd_same, List.map_set]
        · rw [List.length_set]; exact ll
        · intro x hx
          rcases List.mem_or_eq_of_mem_set hx with e | e
          · exact nn x e
          · omega
        · omega
        · rw [L2.sum_set li0]
          omega
        · intro m hm
          rw [List.getElem?_set_ne (by omega)]
          exact zs m (by omega)
      refine ⟨.int (0 + i), rfl, .int kinds, rfl, kinds, 1, rfl, rfl, 0 + i, _, rfl, rfl, _, rfl, ite2 (fun _ => ?_) (fun _ => ?_)⟩
      · refine ⟨.ref d, rfl, .int left, rfl, d, a, b, left, _, rfl, DG, lf, ?_, by omega, fun G2 v D2 k2 v0 v1 => ?_⟩
        · have := sum_nn nn
          omega
        obtain ⟨ix, gL, l2, fin⟩ := step G2 v D2 k2 v0 v1
        refine ⟨.ref L, rfl, .int (0 + i), rfl, L, _, _, i, rfl, rfl, gL, ix, ?_⟩
        refine ⟨.int left, rfl, .ref L, rfl, .int (0 + i), rfl, L, _, _, .int v, rfl, rfl, SqL.of upd_same, ?_, left, v, rfl, rfl, some (.int (0 + i)), y6, left - v, l2, rfl, fin⟩
        rw [show (0 + (i : Int)) = (i : Int) by omega]
        exact atI_nat (by rw [List.getElem?_set_self (by rw [List.length_map]; exact hil)])
      · obtain ⟨ix, gL, l2, fin⟩ := step G left (DG.mono (by omega)) Kp.refl lf (Int.le_refl _)
        refine ⟨.int left, rfl, .ref L, rfl, .int (0 + i), rfl, L, _, _, i, rfl, rfl, gL, ix, ?_⟩
        refine ⟨.int left, rfl, .ref L, rfl, .int (0 + i), rfl, L, _, _, .int left, rfl, rfl, SqL.of upd_same, ?_, left, left, rfl, rfl, some (.int (0 + i)), y6, left - left, l2, rfl, fin⟩
        rw [show (0 + (i : Int)) = (i : Int) by omega]
        exact atI_nat (by rw [List.getElem?_set_self (by rw [List.length_map]; exact hil)])
    · obtain ⟨y5, y6, left, l, rfl, DG, kG, fG, ll, nn, lf, ls, zs⟩ := hP
      refine ⟨.ref d, rfl, _, rfl, d, a, b, kinds, _, rfl, DG, by omega, by omega, by omega, fun G2 r D2 k2 r0 r1 => ?_⟩
      have fG2 := k2 _ _ fG oL
      obtain ⟨m, rfl⟩ : ∃ m : Nat, r = (m : Int) := ⟨_, (Int.toNat_of_nonneg r0).symm⟩
      refine ⟨.ref L, rfl, .int m, rfl, m, rfl, L, _, rfl, SqL.of fG2, fun p1 n1 => ?_⟩
      rw [cut_from]
      have f1 := same_new (o := .lst ((l.map V.int).drop m)) n1
      refine ⟨.ref L, rfl, .int m, rfl, m, rfl, L, _, rfl, SqL.of (f1 _ _ fG2), fun p2 n2 => ?_⟩
      rw [cut_to]
      have f2 := same_new (o := .lst ((l.map V.int).take m)) n2
      refine ⟨p1, p2, _, _, rfl, rfl, f2 _ _ upd_same, upd_same, ?_, fun p3 n3 => ?_⟩
      · rw [List.length_drop, List.length_take, List.length_map]
        exact Nat.le_of_lt (small1000 (by omega))
      have f3 := same_new (o := .lst ((l.map V.int).drop m ++ (l.map V.int).take m)) n3
      refine ⟨p3, _, rfl, .inl ⟨SqL.of upd_same, fun p4 n4 => ?_⟩⟩
      have D6 := ((((D2.new (o := .lst ((l.map V.int).drop m)) n1).new (o := .lst ((l.map V.int).take m)) n2).new (o := .lst ((l.map V.int).drop m ++ (l.map V.int).take m)) n3))
      refine q _ p4 (l.drop m ++ l.take m) ((D6.new n4).mono (by omega)) (kG.trans (k2.trans ((Kp.of f1).trans ((Kp.of f2).trans ((Kp.of f3).trans (Kp.new n4)))))) ?_ (D6.fresh n4) ?_ ?_ ?_
      · rw [upd_same, List.map_append, List.map_drop, List.map_take]
      · rw [List.length_append, List.length_drop, List.length_take]
        omega
      · intro x hx
        rcases List.mem_append.mp hx with e | e
        · exact nn x (List.mem_of_mem_drop e)
        · exact nn x (List.mem_of_mem_take e)
      · rw [sum_rot]
        omega

abbrev sStand : Stmt := topS 11
abbrev nStand : List Str := ["_law_deck_here", "_law_house_here", "_law_size"]
theorem cStand : FnScope nStand ["_law_deck_here", "_law_house_here"] (defScope sStand) :=
  ⟨rfl, rfl, rfl, by decide +kernel, rfl, by decide +kernel, by decide +kernel⟩

def spStand : Sp := fun vs H Q _ => ∃ (d a : Addr) (b : Sd) (h z : Addr) (sizes : List Int) (kinds : Int) (c : Nat), vs = [.ref d, .ref h] ∧ Deck d a b H c ∧ Hs H h z sizes kinds ∧ ¬ Own d a b h ∧ ¬ Own d a b z ∧
  sizes.length ≤ 9 ∧ (∀ s ∈ sizes, 1 ≤ s ∧ s ≤ 10 ^ 12) ∧ 1 ≤ kinds ∧ kinds ≤ 6 ∧ c + 400 < 2 ^ 30 ∧
  ∀ (H' : Hp) (p : Addr) (rows : List (List Int)), Deck d a b H' (c + 400) → Kp d a b H H' → Snd d a b H' p rows → OkS sizes kinds rows → Q (.ref p) H'
theorem ok_stand {f : Addr} {fd : FuncData} {k j : Nat} (F : Fun K "_law_stand" "_law_stand" sStand f fd) (m_tuple : mg "tuple" = none)
    (Cw : Callee P w K mg base j "_law_row" ["_law_deck_here", "_law_size", "_law_kinds"] spRow) (hj : j ≤ k) :
    FnOk P w K mg base CX0 (k + 1) f fd ["_law_deck_here", "_law_house_here"] spStand := by
  refine F.ok cStand (fun vs H Q E h => ?_) (fun cdv A outer s H vs Q E hr h => ?_)
  · obtain ⟨d, a, b, h, z, sizes, kinds, c, rfl, _⟩ := h
    rfl
  · obtain ⟨d, a, b, h, z, sizes, kinds, c, rfl, D, hs, oh, oz, ls, hz, k1, k6, hc, q⟩ := h
    have hr := hr.mono hj
    refine ⟨_, (pss_one (ps_ret (pe_callTy call_tuple_of (by rfl) m_tuple PyProof.Rows.boot_tuple (pa_cons (pe_lc (own := [("_law_size", 2)]) (g := gName 2) (tt := tYes) rfl cStand.nd (pi_tup (pe_ix ix_tup (pv 1) pe_int (fun _ _ => rfl))) (blkOk_by (N := nStand) (sc := defScope sStand) (by decide +kernel)) (fun _ _ _ _ _ => (pg_name (i := 2) cStand.nd rfl (.inl rfl))) (fun _ _ _ _ _ => pts_nil) (fun _ _ _ _ _ => (pe_u Cw hr (by rfl) (pa_cons (pv 0) (pa_cons (pv 2) (pa_cons (pe_ix (r := rIxT K) ix_tup (pv 1) pe_int (fun _ _ => rfl)) pa_nil)))))) pa_nil)))), ?_⟩
    refine ⟨.ref h, rfl, h, _, 0, .ref z, rfl, rfl, SqT.of hs.h, at0, z, rfl, ⟨_, SqT.of hs.z⟩, fun L nL => ?_⟩
    have oL := D.fresh nL
    refine lc_tup (xs := sizes.map V.int) (fun i G => Deck d a b G (c + 40 * i) ∧ Kp d a b H G ∧ Hs G h z sizes kinds ∧ ∃ vs rows, G L = some (.lst vs) ∧ Rws d a b G vs rows ∧ rows.length = i ∧
        ∀ (m : Nat) (s : Int) (r : List Int), sizes[m]? = some s → rows[m]? = some r → r.length = kinds.toNat ∧ (∀ x ∈ r, 0 ≤ x) ∧ r.sum ≤ s)
      ⟨D.new nL, Kp.new nL, hs.same (same_new nL), [], [], upd_same, .nil, rfl, fun m s r _ e => nomatch e⟩ (fun i G _ p => SqT.of p.2.2.1.z) (fun i x G hx p => ?_) (fun G p => ?_)
    · obtain ⟨DG, kG, hG, vs, rows, fL, rw', lr, hrow⟩ := p
      rw [List.getElem?_map] at hx
      cases hi : sizes[i]? with
      | none => rw [hi] at hx; cases hx
      | some size =>
      rw [hi] at hx
      have ex : V.int size = x := Option.some.inj hx
      subst ex
      have hsz := hz size (List.mem_of_getElem? hi)
      have hil : i < sizes.length := (List.getElem?_eq_some_iff.mp hi).1
      refine ⟨rfl, .ref d, rfl, _, rfl, .ref h, rfl, h, _, 1, .int kinds, rfl, rfl, SqT.of hG.h, at1, d, a, b, size, kinds, _, rfl, DG, by omega, by omega, k1, k6, by omega, fun G2 p row D2 k2 fp op lp np sp' => ?_⟩
      have fL2 := k2 _ _ fL oL
      refine ⟨vs, fL2, small1000 (by rw [rw'.length]; omega), (D2.put (off oL)).mono (by omega), ?_, ?_, vs ++ [.ref p], rows ++ [row], upd_same, ?_, ?_, ?_⟩
      · refine ⟨fun y o hy hn => ?_⟩
        rw [upd_ne (ne_of_none hy nL)]
        exact k2.run y o (kG.run y o hy hn) hn
      · have hG2 := hG.keep k2 oh oz
        exact ⟨by rw [upd_ne (ne_of hG2.h fL2 (by intro z; cases z))]; exact hG2.h, by rw [upd_ne (ne_of hG2.z fL2 (by intro z; cases z))]; exact hG2.z⟩
      · exact ((rw'.keep k2).append (.cons ⟨p, rfl, fp, op⟩ .nil)).put fL2
      · rw [List.length_append, lr]; rfl
      · intro m s r hm hr'
        by_cases hlt : m < rows.length
        · rw [List.getElem?_append_left hlt] at hr'
          exact hrow m s r hm hr'
        · rw [List.getElem?_append_right (by omega)] at hr'
          have hm2 : m - rows.length = 0 := by
            have := (List.getElem?_eq_some_iff.mp hr').1
            rw [List.length_singleton] at this
            omega
          rw [hm2] at hr'
          have er : row = r := Option.some.inj hr'
          have em : m = i := by omega
          rw [em, hi] at hm
          have es := Option.some.inj hm
          subst er es
          exact ⟨lp, np, sp'⟩
    · obtain ⟨DG, kG, hG, vs, rows, fL, rw', lr, hrow⟩ := p
      rw [List.length_map] at DG lr
      refine ⟨L, vs, rfl, .inl ⟨SqL.of fL, fun p np => ?_⟩⟩
      exact q _ p rows ((DG.new np).mono (by omega)) (kG.trans (Kp.new np)) ⟨⟨vs, upd_same, rw'.keep (Kp.new np)⟩, DG.fresh np⟩ ⟨lr, hrow⟩

abbrev sPut : Stmt := topS 12
abbrev nPut : List Str := ["_law_stand_here", "_law_room", "_law_kind", "_law_many", "_law_rows", "_law_row_here"]
theorem cPut : FnScope nPut ["_law_stand_here", "_law_room", "_law_kind", "_law_many"] (defScope sPut) :=
  ⟨rfl, rfl, rfl, by decide +kernel, rfl, by decide +kernel, by decide +kernel⟩

inductive LRws (d a : Addr) (b : Sd) (H : Hp) : List V → List (List Int) → Prop
  | nil : LRws d a b H [] []
  | cons {q : Addr} {vs : List V} {r : List Int} {rs : List (List Int)} : H q = some (.lst (r.map V.int)) → ¬ Own d a b q → V.ref q ∉ vs → LRws d a b H vs rs → LRws d a b H (.ref q :: vs) (r :: rs)
theorem LRws.length {d a : Addr} {b : Sd} {H : Hp} : ∀ {vs : List V} {rs : List (List Int)}, LRws d a b H vs rs → vs.length = rs.length
  | _, _, .nil => rfl
  | _, _, .cons _ _ _ r => by rw [List.length_cons, List.length_cons, LRws.length r]
theorem LRws.trk {d a : Addr} {b : Sd} {H : Hp} {q : Addr} : ∀ {vs : List V} {rs : List (List Int)}, LRws d a b H vs rs → V.ref q ∈ vs → ∃ o, H q = some o
  | _, _, .nil, h => by cases h
  | _, _, .cons h1 _ _ r, h => by
    rcases List.mem_cons.mp h with e | e
    · injection e with e
      rw [e]
      exact ⟨_, h1⟩
    · exact LRws.trk r e
theorem LRws.same {d a : Addr} {b : Sd} {H H' : Hp} (s : Same H H') : ∀ {vs : List V} {rs : List (List Int)}, LRws d a b H vs rs → LRws d a b H' vs rs
  | _, _, .nil => .nil
  | _, _, .cons h n m r => .cons (s _ _ h) n m (LRws.same s r)
theorem LRws.put {d a : Addr} {b : Sd} {H : Hp} {q : Addr} {o : HO} : ∀ {vs : List V} {rs : List (List Int)}, V.ref q ∉ vs → LRws d a b H vs rs → LRws d a b (upd H q o) vs rs
  | _, _, _, .nil => .nil
  | _, _, hn, .cons h n m r => .cons (by rw [upd_ne fun e => hn (by rw [e]; exact List.mem_cons_self)]; exact h) n m (LRws.put (fun z => hn (List.mem_cons_of_mem _ z)) r)
theorem LRws.snoc {d a : Addr} {b : Sd} {H : Hp} {q : Addr} {r : List Int} (h : H q = some (.lst (r.map V.int))) (n : ¬ Own d a b q) : ∀ {vs : List V} {rs : List (List Int)}, V.ref q ∉ vs → LRws d a b H vs rs → LRws d a b H (vs ++ [.ref q]) (rs ++ [r])
  | _, _, _, .nil => .cons h n (by simp) .nil
  | _, _, hn, .cons h1 n1 m r1 => .cons h1 n1 (fun z => by
      rcases List.mem_append.mp z with e | e
      · exact m e
      · exact hn (by rw [← List.mem_singleton.mp e]; exact List.mem_cons_self)) (LRws.snoc h n (fun z => hn (List.mem_cons_of_mem _ z)) r1)
theorem LRws.at {d a : Addr} {b : Sd} {H : Hp} : ∀ {vs : List V} {rs : List (List Int)} {i : Nat} {r : List Int}, LRws d a b H vs rs → rs[i]? = some r → ∃ q, vs[i]? = some (.ref q) ∧ H q = some (.lst (r.map V.int)) ∧ ¬ Own d a b q
  | _, _, _, _, .nil, e => by simp at e
  | _, _, 0, _, .cons h n _ _, e => by
    have e1 := Option.some.inj e
    subst e1
    exact ⟨_, rfl, h, n⟩
  | _, _, i + 1, _, .cons _ _ _ r, e => LRws.at (i := i) r e
theorem LRws.set {d a : Addr} {b : Sd} {H : Hp} {q : Addr} {r' : List Int} : ∀ {vs : List V} {rs : List (List Int)} {i : Nat}, LRws d a b H vs rs → vs[i]? = some (.ref q) → LRws d a b (upd H q (.lst (r'.map V.int))) vs (rs.set i r')
  | _, _, _, .nil, e => by simp at e
  | _, _, 0, .cons h n m r, e => by
    have e1 := Option.some.inj e
    injection e1 with e1
    subst e1
    exact .cons upd_same n m (LRws.put m r)
  | _, _, i + 1, .cons (q := q2) (vs := vs2) h n m r, e => by
    have e' : vs2[i]? = some (.ref q) := e
    have ne : q2 ≠ q := fun z => m (by rw [z]; exact List.mem_of_getElem? e')
    exact .cons (by rw [upd_ne ne]; exact h) n m (LRws.set r e')
def spPut : Sp := fun vs H Q _ => ∃ (d a : Addr) (b : Sd) (c : Nat) (p : Addr) (rs : List (List Int)) (room kind : Nat) (many : Int) (r : List Int) (x : Int), vs = [.ref p, .int room, .int kind, .int many] ∧ Deck d a b H c ∧ Snd d a b H p rs ∧
  rs.length ≤ 100 ∧ rs[room]? = some r ∧ r[kind]? = some x ∧ ∀ (H' : Hp) (p' : Addr), Deck d a b H' c → Same H H' → Snd d a b H' p' (rs.set room (r.set kind (x + many))) → Q (.ref p') H'
theorem ok_put {f : Addr} {fd : FuncData} {k : Nat} (F : Fun K "_law_put" "_law_put" sPut f fd) (m_tuple : mg "tuple" = none) (m_list : mg "list" = none) :
    FnOk P w K mg base CX0 (k + 1) f fd ["_law_stand_here", "_law_room", "_law_kind", "_law_many"] spPut := by
  refine F.ok cPut (fun vs H Q E h => ?_) (fun cdv A outer s H vs Q E hr h => ?_)
  · obtain ⟨d, a, b, c, p, rs, room, kind, many, r, x, rfl, _⟩ := h
    rfl
  · obtain ⟨d, a, b, c, p, rs, room, kind, many, r, x, rfl, D, hS, l100, hr1, hx1, q⟩ := h
    obtain ⟨vs, hp, rw'⟩ := hS.ex
    have lv := rw'.length
    refine ⟨_, (pss_cons (ps_setLc (i := 4) (own := [("_law_row_here", 5)]) (g := gName 5) (tt := tYes) rfl cPut.nd rfl rfl (sw_true rfl rfl rfl (by decide +kernel)) (pi_tup (pv 0)) (blkOk_by (N := nPut) (sc := defScope sPut) (by decide +kernel)) (fun _ _ _ _ _ => (pg_name (i := 5) cPut.nd rfl (.inl rfl))) (fun _ _ _ _ _ => pts_nil) (fun _ _ _ _ _ => (pe_callTy (r := rLstOf K) call_lstK (by rfl) m_list (by decide +kernel) (pa_cons (pv 5) pa_nil))))
        (pss_cons (ps_asg (pe_op op_add (pe_ix ix_list (pe_ix ix_list (pv 4) (pv 1) (fun _ _ => rfl)) (pv 2) (fun _ _ => rfl)) (pv 3)) (pg_sub (pe_ix ix_list (pv 4) (pv 1) (fun _ _ => rfl)) (pv 2) set_list))
        (pss_one (ps_ret (pe_callTy call_tuple_of (by rfl) m_tuple PyProof.Rows.boot_tuple (pa_cons (pe_lc (own := [("_law_row_here", 5)]) (g := gName 5) (tt := tYes) rfl cPut.nd (pi_list (pv 4)) (blkOk_by (N := nPut) (sc := defScope sPut) (by decide +kernel)) (fun _ _ _ _ _ => (pg_name (i := 5) cPut.nd rfl (.inl rfl))) (fun _ _ _ _ _ => pts_nil) (fun _ _ _ _ _ => (pe_callTy (r := rTupOf K) call_tupK (by rfl) m_tuple (by decide +kernel) (pa_cons (pv 5) pa_nil)))) pa_nil)))))), ?_⟩
    refine ⟨.ref p, rfl, p, rfl, ⟨_, SqT.of hp⟩, fun L nL => ?_⟩
    refine lc_tup (xs := vs) (fun i G => Same H G ∧ Deck d a b G c ∧ ∃ ws, G L = some (.lst ws) ∧ LRws d a b G ws (rs.take i) ∧ V.ref L ∉ ws ∧ ∀ q, V.ref q ∈ ws → H q = none)
      ⟨same_new nL, D.new nL, [], upd_same, .nil, by simp, by simp⟩ (fun i G _ z => SqT.of (z.1 _ _ hp)) (fun i y G hy hP => ?_) (fun G hP => ?_)
    · obtain ⟨sm, DG, ws, fL, lr, nw, hfr⟩ := hP
      obtain ⟨r0, hr0, q0, rfl, fq0, oq0⟩ := rw'.get hy
      have hi : i < vs.length := (List.getElem?_eq_some_iff.mp hy).1
      have ll := lr.length
      rw [List.length_take] at ll
      refine ⟨rfl, .ref q0, rfl, q0, _, rfl, .inr (SqT.of (sm _ _ fq0)), fun n nn => ?_⟩
      have s1 := same_new (o := .lst (r0.map V.int)) nn
      have fL1 := s1 _ _ fL
      have nnw : V.ref n ∉ ws := fun z => by
        obtain ⟨o, ho⟩ := lr.trk z
        rw [nn] at ho
        cases ho
      have nLn : L ≠ n := ne_of_none fL nn
      refine ⟨ws, fL1, small1000 (by omega), ?_, (DG.new nn).put (off (D.fresh nL)), ws ++ [.ref n], upd_same, ?_, ?_, ?_⟩
      · intro y o hy'
        rw [upd_ne (ne_of_none hy' nL)]
        exact s1 _ _ (sm _ _ hy')
      · rw [List.take_add_one, hr0]
        have l1 := LRws.snoc (r := r0) (upd_same (H := G) (a := n) (o := .lst (r0.map V.int))) (DG.fresh nn) nnw (lr.same s1)
        refine LRws.put (fun z => ?_) l1
        rcases List.mem_append.mp z with e | e
        · exact nw e
        · have := List.mem_singleton.mp e
          injection this with this
          exact nLn this
      · intro z
        rcases List.mem_append.mp z with e | e
        · exact nw e
        · have := List.mem_singleton.mp e
          injection this with this
          exact nLn this
      · intro q1 hq1
        rcases List.mem_append.mp hq1 with e | e
        · exact hfr q1 e
        · have := List.mem_singleton.mp e
          injection this with this
          rw [this]
          exact sm.free nn
    · obtain ⟨sm, DG, ws, fL, lr, nw, hfr⟩ := hP
      rw [lv, List.take_length] at lr
      obtain ⟨q0, hq0, fq0, oq0⟩ := lr.at hr1
      have hk : kind < r.length := (List.getElem?_eq_some_iff.mp hx1).1
      have gk : (r.map V.int)[kind]? = some (.int x) := by rw [List.getElem?_map, hx1]; rfl
      refine ⟨.ref L, rfl, .int room, rfl, L, _, _, .ref q0, rfl, rfl, SqL.of fL, atI_nat hq0, .int kind, rfl, q0, _, _, .int x, rfl, rfl, SqL.of fq0, atI_nat gk, .int many, rfl, x, many, rfl, rfl, ?_⟩
      refine ⟨.ref L, rfl, .int room, rfl, L, _, _, .ref q0, rfl, rfl, SqL.of fL, atI_nat hq0, .int kind, rfl, q0, _, _, kind, rfl, rfl, fq0, ?_, ?_⟩
      · unfold ixN
        rw [if_pos (by omega), if_pos (by rw [List.length_map]; omega)]
        congr 1
      have ne0 : L ≠ q0 := fun e => nw (by rw [e]; exact List.mem_of_getElem? hq0)
      have l2 := lr.set (r' := r.set kind (x + many)) hq0
      rw [← List.map_set]
      have fL2 : upd G q0 (.lst ((r.set kind (x + many)).map V.int)) L = some (.lst ws) := by rw [upd_ne ne0]; exact fL
      have D2 := DG.put (o := .lst ((r.set kind (x + many)).map V.int)) (off oq0)
      have s2 : Same H (upd G q0 (.lst ((r.set kind (x + many)).map V.int))) := fun y o hy => by
        rw [upd_ne (ne_of_none hy (hfr q0 (List.mem_of_getElem? hq0)))]
        exact sm _ _ hy
      generalize upd G q0 (.lst ((r.set kind (x + many)).map V.int)) = G2 at l2 fL2 D2 s2
      refine ⟨.ref L, rfl, L, rfl, ⟨_, SqL.of fL2⟩, fun M nM => ?_⟩
      have oM := D2.fresh nM
      have l3 := l2.length
      refine lc_list (xs := ws) (fun i G3 => Same G2 G3 ∧ Deck d a b G3 c ∧ ∃ us, G3 M = some (.lst us) ∧ Rws d a b G3 us ((rs.set room (r.set kind (x + many))).take i))
        ⟨same_new nM, D2.new nM, [], upd_same, .nil⟩ (fun i G3 _ z => SqL.of (z.1 _ _ fL2)) (fun i y G3 hy hP => ?_) (fun G3 hP => ?_)
      · obtain ⟨sm3, D3, us, fM, ru⟩ := hP
        have hi : i < ws.length := (List.getElem?_eq_some_iff.mp hy).1
        have hrow := List.getElem?_eq_getElem (show i < (rs.set room (r.set kind (x + many))).length by omega)
        obtain ⟨q1, hq1, fq1, oq1⟩ := l2.at hrow
        rw [hy] at hq1
        have e1 := Option.some.inj hq1
        subst e1
        have ll := ru.length
        rw [List.length_take] at ll
        have lset : (rs.set room (r.set kind (x + many))).length = rs.length := List.length_set
        refine ⟨rfl, .ref q1, rfl, q1, _, rfl, .inl ⟨SqL.of (sm3 _ _ fq1), fun n nn => ?_⟩⟩
        have s4 := same_new (o := .tup ((rs.set room (r.set kind (x + many)))[i].map V.int)) nn
        have fM4 := s4 _ _ fM
        refine ⟨us, fM4, small1000 (by omega), ?_, (D3.new nn).put (off oM), us ++ [.ref n], upd_same, ?_⟩
        · intro y o hy'
          rw [upd_ne (ne_of_none hy' nM)]
          exact s4 _ _ (sm3 _ _ hy')
        · rw [List.take_add_one, hrow]
          exact ((ru.keep (Kp.of s4)).append (.cons ⟨n, rfl, upd_same, D3.fresh nn⟩ .nil)).put fM4
      · obtain ⟨sm3, D3, us, fM, ru⟩ := hP
        rw [l3, List.take_length] at ru
        refine ⟨M, us, rfl, .inl ⟨SqL.of fM, fun t nt => ?_⟩⟩
        exact q _ t (D3.new nt) (s2.trans (sm3.trans (same_new nt))) ⟨⟨us, upd_same, ru.keep (Kp.new nt)⟩, D3.fresh nt⟩

end

end Fr

set_option Elab.async false
set_option linter.all false
set_option maxRecDepth 100000
namespace Fr
open PySem PySem.Spec PyProof.Rows L2

section
variable {P : Program} {w : World} {K : PySem.W.Frag} {mg : Str → Option Value} {base : Heap}
abbrev sSame : Stmt := topS 7
abbrev nSame : List Str := ["_law_found", "_law_due", "_law_k"]
theorem cSame : FnScope nSame ["_law_found", "_law_due"] (defScope sSame) :=
  ⟨rfl, rfl, rfl, by decide +kernel, rfl, by decide +kernel, by decide +kernel⟩

mutual
def smd : PyData → Bool
  | .int _ => true
  | .tuple xs => decide (xs.length ≤ 500) && smdAll xs
  | .list xs => decide (xs.length ≤ 500) && smdAll xs
  | _ => false
def smdAll : List PyData → Bool
  | [] => true
  | x :: xs => smd x && smdAll xs
end
theorem smdAll_iff : ∀ xs : List PyData, smdAll xs = true ↔ ∀ x ∈ xs, smd x = true
  | [] => by simp [smdAll]
  | x :: xs => by simp [smdAll, smdAll_iff xs]
def isTL : PyData → Bool
  | .tuple _ => true
  | .list _ => true
  | _ => false
theorem kit_TL {K : PySem.W.Frag} (x : PyData) : PySem.W.kitAny K (.type (tyN x)) [.type "tuple", .type "list"] = some (isTL x) := by
  refine kitAny_cons (kit_ty (kit_T x)) (fun h1 => kitAny_cons (kit_ty (kit_L x)) (fun h2 => ?_) (fun h2 => ?_)) (fun h1 => ?_)
  · cases x <;> first | rfl | (cases h1; done) | (cases h2; done)
  · cases x <;> first | rfl | (cases h2; done)
  · cases x <;> first | rfl | (cases h1; done)
def spSame (n : Nat) : Sp := fun vs H Q _ => ∃ (d a : Addr) (b : Sd) (v u : V) (x : PyData), vs = [v, u] ∧ Dt d a b H v x ∧ Dt d a b H u x ∧ smd x = true ∧ x.depth ≤ n ∧ ∀ H', Same H H' → Q (.bl true) H'
def spSm : Nat → Sp
  | 0 => fun _ _ _ _ => False
  | n + 1 => spSame n
theorem no_same {f : Addr} {fd : FuncData} {k : Nat} {ps : List Str} : FnOk P w K mg base CX0 k f fd ps (spSm 0) :=
  ⟨fun _ _ _ _ h => h.elim, fun _ _ _ _ _ _ _ _ _ _ _ _ _ h => h.elim⟩
/-- the items of a sequence, read at a place -/
theorem item_of {d a : Addr} {b : Sd} {H : Hp} {v : V} {x : PyData} {xs : List PyData} (t : Dt d a b H v x) (e : x = .tuple xs ∨ x = .list xs) : ∃ (q : Addr) (vs : List V), v = .ref q ∧ DtAll d a b H vs xs ∧ (SqL K H q vs ∨ SqT K H q vs) ∧
    ∀ (G : Hp), Same H G → ∀ {i : Nat} {y : V} {Q : VK}, vs[i]? = some y → Q y G → rIx K v (.int (0 + (i : Int))) G Q := by
  have e0 : ∀ i : Nat, (0 + (i : Int)) = (i : Int) := fun i => by omega
  rcases e with e | e <;> subst e
  · cases t with
    | @tup q vs _ h1 h2 h3 => exact ⟨q, vs, rfl, h3, .inr (SqT.of h1), fun G s _ _ _ hy hq => .inr (.inl ⟨q, vs, _, _, rfl, rfl, SqT.of (s _ _ h1), by rw [e0]; exact atI_nat hy, hq⟩)⟩
  · cases t with
    | @lst q vs _ h1 h2 h3 => exact ⟨q, vs, rfl, h3, .inl (SqL.of h1), fun G s _ _ _ hy hq => .inl ⟨q, vs, _, _, rfl, rfl, SqL.of (s _ _ h1), by rw [e0]; exact atI_nat hy, hq⟩⟩
theorem ok_same {f : Addr} {fd : FuncData} {k j : Nat} (n : Nat) (F : Fun K "_law_same" "_law_same" sSame f fd) (m_len : mg "len" = none) (m_isinstance : mg "isinstance" = none) (m_tuple : mg "tuple" = none) (m_list : mg "list" = none) (m_int : mg "int" = none) (m_str : mg "str" = none) (m_bool : mg "bool" = none) (m_range : mg "range" = none)
    (Cs : Callee P w K mg base j "_law_same" ["_law_found", "_law_due"] (spSm n)) (hj : j ≤ k) :
    FnOk P w K mg base CX0 (k + 1) f fd ["_law_found", "_law_due"] (spSame n) := by
  refine F.ok cSame (fun vs H Q E h => ?_) (fun cdv A outer s H vs Q E hr h => ?_)
  · obtain ⟨d, a, b, v, u, x, rfl, _⟩ := h
    rfl
  · obtain ⟨d, a, b, v, u, x, rfl, tv, tu, hs, hd, q⟩ := h
    have hr := hr.mono hj
    refine ⟨_, (pss_cons (ps_if (pt_val (pe_callB call_isiT (by rfl) m_isinstance PyProof.Rows.boot_isinstance (pa_cons (pv 1) (pa_cons (pe_tup (pa_cons (pe_bltn (v := .ty "tuple") (by rfl) m_tuple PyProof.Rows.boot_tuple rfl) (pa_cons (pe_bltn (v := .ty "list") (by rfl) m_list PyProof.Rows.boot_list rfl) pa_nil))) pa_nil)))) (pss_cons (ps_if (pt_cmpR op_ne (pe_callB call_isi (by rfl) m_isinstance PyProof.Rows.boot_isinstance (pa_cons (pv 0) (pa_cons (pe_bltn (v := .ty "tuple") (by rfl) m_tuple PyProof.Rows.boot_tuple rfl) pa_nil))) (pe_callB call_isi (by rfl) m_isinstance PyProof.Rows.boot_isinstance (pa_cons (pv 1) (pa_cons (pe_bltn (v := .ty "tuple") (by rfl) m_tuple PyProof.Rows.boot_tuple rfl) pa_nil))) (nomark _)) (pss_one (ps_ret pe_bl)) pss_nil)
        (pss_cons (ps_if (pt_cmpR op_ne (pe_callB call_isi (by rfl) m_isinstance PyProof.Rows.boot_isinstance (pa_cons (pv 0) (pa_cons (pe_bltn (v := .ty "list") (by rfl) m_list PyProof.Rows.boot_list rfl) pa_nil))) (pe_callB call_isi (by rfl) m_isinstance PyProof.Rows.boot_isinstance (pa_cons (pv 1) (pa_cons (pe_bltn (v := .ty "list") (by rfl) m_list PyProof.Rows.boot_list rfl) pa_nil))) (nomark _)) (pss_one (ps_ret pe_bl)) pss_nil)
        (pss_cons (ps_if (pt_cmpR op_ne (pe_callB call_len_seq (by rfl) m_len PySem.boot_len (pa_cons (pv 0) pa_nil)) (pe_callB call_len_seq (by rfl) m_len PySem.boot_len (pa_cons (pv 1) pa_nil)) (nomark _)) (pss_one (ps_ret pe_bl)) pss_nil)
        (pss_one (ps_ret (pe_cmpR (op_eqE hr.units) (pe_lc (own := [("_law_k", 2)]) (g := gName 2)  rfl cSame.nd (pi_range1 (by rfl) m_range (pa_cons (pe_callB call_len_seq (by rfl) m_len PySem.boot_len (pa_cons (pv 1) pa_nil)) pa_nil)) (blkOk_by (N := nSame) (sc := defScope sSame) (by decide +kernel)) (fun _ _ _ _ _ => (pg_name (i := 2) cSame.nd rfl (.inl rfl))) (fun _ _ _ _ _ => (pts_one (pt_not (pt_val (pe_u Cs hr (by rfl) (pa_cons (pe_ix (r := rIx K) ix_seq (pv 0) (pv 2) (fun _ _ => rfl)) (pa_cons (pe_ix (r := rIx K) ix_seq (pv 1) (pv 2) (fun _ _ => rfl)) pa_nil))))))) (fun _ _ _ _ _ => (pv 2))) (pe_lst pa_nil) (nomark _))))))) pss_nil)
        (pss_cons (ps_if (pt_cmpR op_isN (pv 1) pe_non (nomark _)) (pss_one (ps_ret (pe_cmpR op_isN (pv 0) pe_non (nomark _)))) pss_nil)
        (pss_cons (ps_if (pt_val (pe_callB call_isi (by rfl) m_isinstance PyProof.Rows.boot_isinstance (pa_cons (pv 1) (pa_cons (pe_bltn (v := .ty "str") (by rfl) m_str PyProof.Rows.boot_str rfl) pa_nil)))) (pss_one (ps_ret (pe_and (pe_callB call_isi (by rfl) m_isinstance PyProof.Rows.boot_isinstance (pa_cons (pv 0) (pa_cons (pe_bltn (v := .ty "str") (by rfl) m_str PyProof.Rows.boot_str rfl) pa_nil))) (pe_one (pe_cmpR op_eq (pv 0) (pv 1) (nomark _)))))) pss_nil)
        (pss_one (ps_ret (pe_and (pe_callB call_isi (by rfl) m_isinstance PyProof.Rows.boot_isinstance (pa_cons (pv 0) (pa_cons (pe_bltn (v := .ty "int") (by rfl) m_int PyProof.Rows.boot_int rfl) pa_nil))) (pe_and (pe_cmpR op_eq (pe_callB call_isi (by rfl) m_isinstance PyProof.Rows.boot_isinstance (pa_cons (pv 0) (pa_cons (pe_bltn (v := .ty "bool") (by rfl) m_bool PyProof.Rows.boot_bool rfl) pa_nil))) (pe_callB call_isi (by rfl) m_isinstance PyProof.Rows.boot_isinstance (pa_cons (pv 1) (pa_cons (pe_bltn (v := .ty "bool") (by rfl) m_bool PyProof.Rows.boot_bool rfl) pa_nil))) (nomark _)) (pe_one (pe_cmpR op_eq (pv 0) (pv 1) (nomark _)))))))))), ?_⟩
    refine ⟨u, rfl, (by show 2 ≤ sizeLine; decide), fun c0 nc => ?_⟩
    have s0 := same_new (o := .tup [.ty "tuple", .ty "list"]) nc
    have tv0 := Dt.keep (Kp.of s0) _ _ tv
    have tu0 := Dt.keep (Kp.of s0) _ _ tu
    refine ⟨u, c0, _, _, _, isTL x, rfl, upd_same, .cons (.ty _) (.cons (.ty _) .nil), tu0.ty, kit_TL x, _, rfl, iteB (fun e => ?_) (fun e => ?_)⟩
    · generalize upd H c0 (.tup [.ty "tuple", .ty "list"]) = G at s0 tv0 tu0
      have seq : ∃ xs, (x = .tuple xs ∨ x = .list xs) := by
        cases x with
        | tuple xs => exact ⟨xs, .inl rfl⟩
        | list xs => exact ⟨xs, .inr rfl⟩
        | _ => cases e
      obtain ⟨xs, ex⟩ := seq
      have tv1 : TyX K G v (.type (tyN x)) := tv0.ty
      have tu1 : TyX K G u (.type (tyN x)) := tu0.ty
      refine ⟨v, rfl, v, .ty "tuple", _, _, isT x, rfl, .ty _, tv1, kit_ty (kit_T x), u, rfl, u, .ty "tuple", _, _, isT x, rfl, .ty _, tu1, kit_ty (kit_T x), rfl, _, rfl, iteNS rfl ?_⟩
      refine ⟨v, rfl, v, .ty "list", _, _, isL x, rfl, .ty _, tv1, kit_ty (kit_L x), u, rfl, u, .ty "list", _, _, isL x, rfl, .ty _, tu1, kit_ty (kit_L x), rfl, _, rfl, iteNS rfl ?_⟩
      have hsm : xs.length ≤ 500 ∧ smdAll xs = true := by
        rcases ex with e | e <;> subst e <;> simpa [smd] using hs
      have hdp : ∀ y ∈ xs, y.depth + 1 ≤ n := by
        have : PyData.depthAll xs + 1 ≤ n := by rcases ex with e | e <;> subst e <;> simpa [PyData.depth] using hd
        intro y hy
        have := (depthAll_le xs (PyData.depthAll xs)).mp (Nat.le_refl _) y hy
        omega
      obtain ⟨qv, vs, rfl, av, sv, itv⟩ := item_of (K := K) tv0 ex
      obtain ⟨qu, us, rfl, au, su, itu⟩ := item_of (K := K) tu0 ex
      have lv := av.length
      have lu := au.length
      refine ⟨.ref qv, rfl, qv, vs, rfl, sv, .ref qu, rfl, qu, us, rfl, su, rfl, _, rfl, ?_⟩
      rw [lv, lu]
      refine iteNS rfl ?_
      refine ⟨.ref qu, rfl, qu, us, rfl, su, _, rfl, by omega, by omega, fun D nD => lc_range (n := (us.length : Int).toNat) (fun i G1 => Same G G1 ∧ G1 D = some (.lst []))
        ⟨same_new nD, upd_same⟩ (fun i G1 hi hP => ?_) (fun G1 hP => ?_)⟩
      · obtain ⟨sm, hD⟩ := hP
        have hi2 : i < us.length := by omega
        have hi3 : i < vs.length := by omega
        obtain ⟨y, hy, ty⟩ := av.get (List.getElem?_eq_getElem hi3)
        obtain ⟨y2, hy2, ty2⟩ := au.get (List.getElem?_eq_getElem hi2)
        rw [hy] at hy2
        have ey := Option.some.inj hy2
        subst ey
        have my : y ∈ xs := List.mem_of_getElem? hy
        have dy := hdp y my
        cases n with
        | zero => omega
        | succ n =>
        refine ⟨rfl, .ref qv, rfl, .int (0 + i), rfl, itv G1 sm (List.getElem?_eq_getElem hi3) ⟨.ref qu, rfl, .int (0 + i), rfl, itu G1 sm (List.getElem?_eq_getElem hi2) ?_⟩⟩
        refine ⟨d, a, b, vs[i], us[i], y, rfl, Dt.keep (Kp.of sm) _ _ ty, Dt.keep (Kp.of sm) _ _ ty2, (smdAll_iff xs).mp hsm.2 y my, by omega, fun G2 s2 => ⟨true, rfl, iteF ?_⟩⟩
        exact ⟨sm.trans s2, s2 _ _ hD⟩
      · obtain ⟨sm, hD⟩ := hP
        refine ⟨Nat.zero_le _, fun e0 n0 => ?_⟩
        have s2 := same_new (o := .lst []) n0
        exact ⟨D, e0, [], rfl, rfl, SqL.of (s2 _ _ hD), SqL.of upd_same, q _ (s0.trans (sm.trans s2))⟩
    · obtain ⟨i, rfl⟩ : ∃ i, x = .int i := by
        cases x with
        | int i => exact ⟨i, rfl⟩
        | tuple _ => cases e
        | list _ => cases e
        | _ => simp [smd] at hs
      cases tv
      cases tu
      generalize upd H c0 (.tup [.ty "tuple", .ty "list"]) = G at s0 tv0 tu0
      have q := q _ s0
      refine ⟨.int i, rfl, rfl, _, rfl, iteF ?_⟩
      refine ⟨.int i, rfl, .int i, .ty "str", _, _, false, rfl, .ty _, tu0.ty, kit_ty (kit_S (.int i)), _, rfl, iteF ?_⟩
      refine ⟨.int i, rfl, .int i, .ty "int", _, _, true, rfl, .ty _, tv0.ty, kit_ty (kit_I (.int i)), _, rfl, iteT ?_⟩
      refine ⟨.int i, rfl, .int i, .ty "bool", _, _, false, rfl, .ty _, tv0.ty, kit_ty (kit_B (.int i)), .int i, rfl, .int i, .ty "bool", _, _, false, rfl, .ty _, tu0.ty, kit_ty (kit_B (.int i)), rfl, true, rfl, iteT ?_⟩
      refine ⟨.int i, rfl, .int i, rfl, rfl, ?_⟩
      rw [decide_eq_true rfl]
      exact q

end

end Fr

set_option Elab.async false
set_option linter.all false
set_option maxRecDepth 100000
namespace Fr
open PySem PySem.Spec PyProof.Rows L2

section
variable {P : Program} {w : World} {K : PySem.W.Frag} {mg : Str → Option Value} {base : Heap}
abbrev sAmiss : Stmt := topS 1
abbrev nAmiss : List Str := ["stand", "wish", "row", "wished_row", "many", "wished"]
theorem cAmiss : FnScope nAmiss ["stand", "wish"] (defScope sAmiss) :=
  ⟨rfl, rfl, rfl, by decide +kernel, rfl, by decide +kernel, by decide +kernel⟩

def scIn (st : Stmt) : Scope := match defBody st with
  | [.Return (some (.Call _ [.ListComp _ _ sc _] _ _)) _] => sc
  | _ => defScope st
def scIn2 (st : Stmt) : Scope := match defBody st with
  | [.Return (some (.ListComp _ _ sc _)) _] => sc
  | _ => defScope st
def amR (rs ts : List (List Int)) : List (List Int) := List.zipWith (List.zipWith (· - ·)) rs ts
/-- two stands of one shape -/
structure Shp (rs ts : List (List Int)) : Prop where
  len : rs.length = ts.length
  few : rs.length ≤ 100
  row : ∀ (i : Nat) (r t : List Int), rs[i]? = some r → ts[i]? = some t → r.length = t.length ∧ r.length ≤ 100
def spAmiss : Sp := fun vs H Q _ => ∃ (d a : Addr) (b : Sd) (c : Nat) (p q : Addr) (rs ts : List (List Int)), vs = [.ref p, .ref q] ∧ Deck d a b H c ∧ Snd d a b H p rs ∧ Snd d a b H q ts ∧ Shp rs ts ∧
  ∀ (H' : Hp) (p' : Addr), Deck d a b H' c → Same H H' → Snd d a b H' p' (amR rs ts) → Q (.ref p') H'
theorem ok_amiss {f : Addr} {fd : FuncData} {k : Nat} (F : Fun K "amiss" "amiss" sAmiss f fd) (m_tuple : mg "tuple" = none) (m_zip : mg "zip" = none) :
    FnOk P w K mg base CX0 (k + 1) f fd ["stand", "wish"] spAmiss := by
  refine F.ok cAmiss (fun vs H Q E h => ?_) (fun cdv A outer s H vs Q E hr h => ?_)
  · obtain ⟨d, a, b, c, p, q, rs, ts, rfl, _⟩ := h
    rfl
  · obtain ⟨d, a, b, c, p, q, rs, ts, rfl, D, sp1, sq1, sh, qq⟩ := h
    obtain ⟨vs, hp, rv⟩ := sp1.ex
    obtain ⟨us, hq, ru⟩ := sq1.ex
    have lv := rv.length
    have lu := ru.length
    have l1 := sh.len
    have l2 := sh.few
    refine ⟨_, (pss_one (ps_ret (pe_callTy call_tuple_of (by rfl) m_tuple PyProof.Rows.boot_tuple (pa_cons (pe_lc (own := [("row", 2), ("wished_row", 3)]) (g := gTup K 2 (gCons (gName 2) (gCons (gName 3) gNil))) (tt := tYes)  rfl cAmiss.nd (RZ.pi_zipA (by rfl) m_zip (pa_cons (pv 0) (pa_cons (pv 1) pa_nil))) (blkOk_by (N := nAmiss) (sc := defScope sAmiss) (by decide +kernel)) (fun _ _ _ _ _ => (pg_tup rfl (pgs_cons (pg_name (i := 2) cAmiss.nd rfl (.inl rfl)) (pgs_cons (pg_name (i := 3) cAmiss.nd rfl (.inl rfl)) pgs_nil)))) (fun _ _ _ _ _ => pts_nil) (fun _ _ _ _ _ => (pe_callTy (r := rTupOf K) call_tupK (by rfl) m_tuple (by decide +kernel) (pa_cons (pe_lc (own := [("many", 4), ("wished", 5)]) (g := gTup K 2 (gCons (gName 4) (gCons (gName 5) gNil))) (tt := tYes) (wi := RZ.iZipA K (tCons (tVar 2) (tCons (tVar 3) tNil))) rfl cAmiss.nd (RZ.pi_zipA (by rfl) m_zip (pa_cons (pv 2) (pa_cons (pv 3) pa_nil))) (blkOk_by (N := nAmiss) (sc := scIn sAmiss) (by decide +kernel)) (fun _ _ _ _ _ => (pg_tup rfl (pgs_cons (pg_name (i := 4) cAmiss.nd rfl (.inl rfl)) (pgs_cons (pg_name (i := 5) cAmiss.nd rfl (.inl rfl)) pgs_nil)))) (fun _ _ _ _ _ => pts_nil) (fun _ _ _ _ _ => (pe_op op_sub (pv 4) (pv 5)))) pa_nil)))) pa_nil)))), ?_⟩
    refine ⟨.ref p, rfl, .ref q, rfl, p, q, _, _, rfl, .inr ⟨SqT.of hp, SqT.of hq, fun L nL => ?_⟩⟩
    have oL := D.fresh nL
    refine lc_zipT (xs := vs) (ys := us) (by omega) (fun i G => Same H G ∧ Deck d a b G c ∧ ∃ ws, G L = some (.lst ws) ∧ Rws d a b G ws ((amR rs ts).take i))
      ⟨same_new nL, D.new nL, [], upd_same, .nil⟩ (fun i G z => ⟨SqT.of (z.1 _ _ hp), SqT.of (z.1 _ _ hq)⟩) (fun i x y T G hx hy hP hT => ?_) (fun G hP => ?_)
    · obtain ⟨sm0, DG0, ws, fL0, rw0⟩ := hP
      obtain ⟨r, hr1, q1, rfl, fq1, oq1⟩ := rv.get hx
      obtain ⟨t, ht1, q2, rfl, fq2, oq2⟩ := ru.get hy
      have rl := sh.row i r t hr1 ht1
      have smT := same_new (o := .tup [.ref q1, .ref q2]) hT
      refine ⟨T, [.ref q1, .ref q2], rfl, SqT.of upd_same, rfl, .ref q1, _, rfl, .ref q2, _, rfl, rfl, rfl, ?_⟩
      have sm := sm0.trans smT
      have DG := DG0.new (o := .tup [.ref q1, .ref q2]) hT
      have fL := smT _ _ fL0
      have rw1 := rw0.keep (Kp.of smT)
      generalize upd G T (.tup [.ref q1, .ref q2]) = G1 at sm DG fL rw1
      refine ⟨.ref q1, rfl, .ref q2, rfl, q1, q2, _, _, rfl, .inr ⟨SqT.of (sm _ _ fq1), SqT.of (sm _ _ fq2), fun M nM => ?_⟩⟩
      have oM := DG.fresh nM
      refine lc_zipT (xs := r.map V.int) (ys := t.map V.int) (by rw [List.length_map, List.length_map]; exact rl.1) (fun m G2 => Same G1 G2 ∧ Deck d a b G2 c ∧ G2 M = some (.lst (((List.zipWith (· - ·) r t).take m).map V.int)))
        ⟨same_new nM, DG.new nM, upd_same⟩ (fun m G2 z => ⟨SqT.of (z.1 _ _ (sm _ _ fq1)), SqT.of (z.1 _ _ (sm _ _ fq2))⟩) (fun m x y T2 G2 hx2 hy2 hP2 hT2 => ?_) (fun G2 hP2 => ?_)
      · obtain ⟨s2, D2, fM⟩ := hP2
        rw [List.getElem?_map] at hx2 hy2
        cases hxi : r[m]? with
        | none => rw [hxi] at hx2; cases hx2
        | some x0 =>
        cases hyi : t[m]? with
        | none => rw [hyi] at hy2; cases hy2
        | some y0 =>
        rw [hxi] at hx2
        rw [hyi] at hy2
        have ex : V.int x0 = x := Option.some.inj hx2
        have ey : V.int y0 = y := Option.some.inj hy2
        subst ex ey
        have s3 := same_new (o := .tup [.int x0, .int y0]) hT2
        have fM3 := s3 _ _ fM
        have hml : m < r.length := (List.getElem?_eq_some_iff.mp hxi).1
        refine ⟨T2, [.int x0, .int y0], rfl, SqT.of upd_same, rfl, .int x0, _, rfl, .int y0, _, rfl, rfl, rfl, .int x0, rfl, .int y0, rfl, x0, y0, rfl, rfl, _, fM3, ?_, ?_, (D2.new hT2).put (off oM), ?_⟩
        · rw [List.length_map, List.length_take]
          exact small1000 (by omega)
        · intro z o hz
          rw [upd_ne (ne_of_none hz nM)]
          exact s3 _ _ (s2 _ _ hz)
        · have e : (List.zipWith (· - ·) r t)[m]? = some (x0 - y0) := by rw [List.getElem?_zipWith, hxi, hyi]
          rw [upd_same, List.take_add_one, e, List.map_append]
          rfl
      · obtain ⟨s2, D2, fM⟩ := hP2
        have e : (List.zipWith (· - ·) r t).take (r.map V.int).length = List.zipWith (· - ·) r t := List.take_of_length_le (by rw [List.length_zipWith, List.length_map]; omega)
        rw [e] at fM
        refine ⟨M, _, rfl, .inl ⟨SqL.of fM, fun n nn => ?_⟩⟩
        have s3 := same_new (o := .tup ((List.zipWith (· - ·) r t).map V.int)) nn
        have fL3 := s3 _ _ (s2 _ _ fL)
        have lw := rw1.length
        rw [List.length_take] at lw
        have hi : i < vs.length := (List.getElem?_eq_some_iff.mp hx).1
        refine ⟨ws, fL3, small1000 (by omega), ?_, (D2.new nn).put (off oL), ws ++ [.ref n], upd_same, ?_⟩
        · intro z o hz
          rw [upd_ne (ne_of_none hz nL)]
          exact s3 _ _ (s2 _ _ (sm _ _ hz))
        · have e2 : (amR rs ts)[i]? = some (List.zipWith (· - ·) r t) := by
            unfold amR
            rw [List.getElem?_zipWith, hr1, ht1]
          rw [List.take_add_one, e2]
          exact (((rw1.keep (Kp.of s2)).keep (Kp.of s3)).append (.cons ⟨n, rfl, upd_same, D2.fresh nn⟩ .nil)).put fL3
    · obtain ⟨sm, DG, ws, fL, rw1⟩ := hP
      have e : (amR rs ts).take vs.length = amR rs ts := List.take_of_length_le (by unfold amR; rw [List.length_zipWith]; omega)
      rw [e] at rw1
      refine ⟨L, ws, rfl, .inl ⟨SqL.of fL, fun n nn => ?_⟩⟩
      exact qq _ n (DG.new nn) (sm.trans (same_new nn)) ⟨⟨ws, upd_same, rw1.keep (Kp.new nn)⟩, DG.fresh nn⟩

end

end Fr

set_option Elab.async false
set_option linter.all false
set_option maxRecDepth 100000
namespace Fr
open PySem PySem.Spec PyProof.Rows L2

section
variable {P : Program} {w : World} {K : PySem.W.Frag} {mg : Str → Option Value} {base : Heap}
abbrev sTooMany : Stmt := topS 2
abbrev nTooMany : List Str := ["stand", "wish", "row", "odd"]
theorem cTooMany : FnScope nTooMany ["stand", "wish"] (defScope sTooMany) :=
  ⟨rfl, rfl, rfl, by decide +kernel, rfl, by decide +kernel, by decide +kernel⟩

theorem tup_walk {K : PySem.W.Frag} {p : Addr} {xs : List V} {H0 : Hp} {Body : V → Hp → (Hp → Prop) → Prop} {Stop : Hp → Prop} (Pv : Nat → Hp → Prop) (h0 : Pv 0 H0) (hq : ∀ i H, Pv i H → SqT K H p xs) (hd : ∀ H, Pv xs.length H → Stop H)
    (hs : ∀ i x H, xs[i]? = some x → Pv i H → Body x H (Pv (i + 1))) :
    ∃ W : Nat → Nat → Hp → Prop, (∃ m, W 0 m H0) ∧ ∀ i m H, W i m H → ((Itt K p).stop i H ∧ Stop H) ∨ ((Itt K p).go i H ∧ ∃ Nx : Hp → Prop, (∀ H', Nx H' → ∃ m', m' < m ∧ W (i + 1) m' H') ∧ ∀ x H', (Itt K p).yld i H x H' → Body x H' Nx) := by
  refine ⟨fun i m H => m = xs.length - i ∧ i ≤ xs.length ∧ Pv i H, ⟨xs.length, by simp, Nat.zero_le _, h0⟩, ?_⟩
  rintro i m H ⟨rfl, hi, pv⟩
  have sq := hq i H pv
  by_cases lt : i < xs.length
  · refine .inr ⟨⟨xs, _, sq, List.getElem?_eq_getElem lt⟩, Pv (i + 1), fun H' p' => ⟨xs.length - (i + 1), by omega, rfl, lt, p'⟩, fun x H' y => ?_⟩
    obtain ⟨rfl, fx⟩ := y
    exact hs i x H' (fx xs sq) pv
  · have e : i = xs.length := by omega
    subst e
    exact .inl ⟨⟨xs, sq, Nat.le_refl _⟩, hd H pv⟩
def posI (x : Int) : Int := if x > 0 then x else 0
def tmR (rs : List (List Int)) : Int := ((rs.map fun r => r.map posI).flatten).sum
def spTooMany : Sp := fun vs H Q _ => ∃ (d a : Addr) (b : Sd) (c : Nat) (p q : Addr) (rs ts : List (List Int)), vs = [.ref p, .ref q] ∧ Deck d a b H c ∧ Snd d a b H p rs ∧ Snd d a b H q ts ∧ Shp rs ts ∧
  ∀ (H' : Hp), Same H H' → Q (.int (tmR (amR rs ts))) H'
theorem len_flat (rs : List (List Int)) (n : Nat) (h : ∀ r ∈ rs, r.length ≤ n) : ((rs.map fun r => r.map posI).flatten).length ≤ rs.length * n := by
  induction rs with
  | nil => exact Nat.zero_le _
  | cons r rs ih =>
    rw [List.map_cons, List.flatten_cons, List.length_append, List.length_map, List.length_cons, Nat.add_mul, Nat.one_mul]
    have h1 := h r List.mem_cons_self
    have h2 := ih fun t ht => h t (List.mem_cons_of_mem _ ht)
    omega
theorem ok_toomany {f : Addr} {fd : FuncData} {k j : Nat} (F : Fun K "too_many" "too_many" sTooMany f fd) (m_sum : mg "sum" = none) (m_max : mg "max" = none)
    (Ca : Callee P w K mg base j "amiss" ["stand", "wish"] spAmiss) (hj : j ≤ k) :
    FnOk P w K mg base CX0 (k + 1) f fd ["stand", "wish"] spTooMany := by
  refine F.ok cTooMany (fun vs H Q E h => ?_) (fun cdv A outer s H vs Q E hr h => ?_)
  · obtain ⟨d, a, b, c, p, q, rs, ts, rfl, _⟩ := h
    rfl
  · obtain ⟨d, a, b, c, p, q, rs, ts, rfl, D, sp1, sq1, sh, qq⟩ := h
    have hr := hr.mono hj
    refine ⟨_, (pss_one (ps_ret (pe_callB (cr_sum rfl) (by rfl) m_sum (by decide +kernel) (pa_cons (pe_lc2 (own := [("row", 2), ("odd", 3)]) (vs1 := [3]) (g := gName 2) (g1 := gName 3) (tt := tYes) (tt1 := tYes) (wi1 := iTup K (tVar 2)) rfl cTooMany.nd (pi_tup (pe_u Ca hr (by rfl) (pa_cons (pv 0) (pa_cons (pv 1) pa_nil)))) (blkOk_by (N := nTooMany) (sc := defScope sTooMany) (by decide +kernel)) (by decide) (fun _ _ _ _ _ => (pg_name (i := 2) cTooMany.nd rfl (.inl rfl))) (fun _ _ _ _ _ => pts_nil) (fun _ _ _ _ _ => (pi_tup (pv 2))) (fun _ _ _ _ _ => (pg_name (i := 3) cTooMany.nd rfl (.inl rfl))) (fun _ _ _ _ _ => pts_nil) (fun _ _ _ _ _ => (pe_callB (call_max2 rfl) (by rfl) m_max (by decide +kernel) (pa_cons pe_int (pa_cons (pv 3) pa_nil))))) pa_nil)))), ?_⟩
    refine ⟨.ref p, rfl, .ref q, rfl, d, a, b, c, p, q, rs, ts, rfl, D, sp1, sq1, sh, fun G t DG sG sn => ?_⟩
    obtain ⟨vs, ht, rv⟩ := sn.ex
    have lrow : ∀ r ∈ amR rs ts, r.length ≤ 100 := by
      intro r hr'
      obtain ⟨i, hi⟩ := List.getElem?_of_mem hr'
      unfold amR at hi
      rw [List.getElem?_zipWith] at hi
      cases h1 : rs[i]? with
      | none => rw [h1] at hi; cases hi
      | some r1 =>
      cases h2 : ts[i]? with
      | none => rw [h1, h2] at hi; cases hi
      | some t1 =>
      rw [h1, h2] at hi
      have e := Option.some.inj hi
      rw [← e, List.length_zipWith]
      have := sh.row i r1 t1 h1 h2
      omega
    have lall : (amR rs ts).length ≤ 100 := by
      unfold amR
      rw [List.length_zipWith]
      have := sh.few
      omega
    have lv := rv.length
    refine ⟨t, rfl, ⟨_, SqT.of ht⟩, fun L nL => ?_⟩
    refine tup_walk (xs := vs) (fun i G1 => Same G G1 ∧ G1 L = some (.lst (((((amR rs ts).take i).map fun r => r.map posI).flatten).map V.int)))
      ⟨same_new nL, upd_same⟩ (fun i G1 z => SqT.of (z.1 _ _ ht)) (fun G1 z => ?_) (fun i x G1 hx z => ?_)
    · obtain ⟨s1, fL⟩ := z
      rw [lv, List.take_length] at fL
      exact ⟨L, _, rfl, SqL.of fL, qq _ (sG.trans s1)⟩
    · obtain ⟨s1, fL⟩ := z
      obtain ⟨r, hr1, q1, rfl, fq1, oq1⟩ := rv.get hx
      refine ⟨rfl, .ref q1, rfl, q1, rfl, ⟨_, SqT.of (s1 _ _ fq1)⟩, ?_⟩
      have lr := lrow r (List.mem_of_getElem? hr1)
      have lt := len_flat ((amR rs ts).take i) 100 fun r hr' => lrow r (List.mem_of_mem_take hr')
      have li : ((amR rs ts).take i).length ≤ 100 := by rw [List.length_take]; omega
      have lt2 := Nat.mul_le_mul_right 100 li
      refine tup_walk (xs := r.map V.int) (fun j G2 => Same G G2 ∧ G2 L = some (.lst ((((((amR rs ts).take i).map fun r => r.map posI).flatten) ++ (r.take j).map posI).map V.int)))
        ⟨s1, by rw [List.take_zero, List.map_nil, List.append_nil]; exact fL⟩ (fun j G2 z => SqT.of (z.1 _ _ (fq1))) (fun G2 z => ?_) (fun j x G2 hx2 z => ?_)
      · obtain ⟨s2, fL2⟩ := z
        refine ⟨s2, ?_⟩
        rw [List.length_map, List.take_length] at fL2
        rw [fL2, List.take_add_one, hr1]
        simp
      · obtain ⟨s2, fL2⟩ := z
        rw [List.getElem?_map] at hx2
        cases hxi : r[j]? with
        | none => rw [hxi] at hx2; cases hx2
        | some x0 =>
        rw [hxi] at hx2
        have ex : V.int x0 = x := Option.some.inj hx2
        subst ex
        refine ⟨rfl, .int x0, rfl, 0, x0, rfl, _, fL2, ?_, ?_, ?_⟩
        · rw [List.length_map, List.length_append, List.length_map, List.length_take]
          exact Nat.lt_of_le_of_lt (show _ ≤ 20000 by omega) (by decide)
        · intro z o hz
          rw [upd_ne (ne_of_none hz nL)]
          exact s2 _ _ hz
        · rw [upd_same, List.take_add_one, hxi]
          simp [posI]
abbrev sFree : Stmt := topS 13
abbrev nFree : List Str := ["_law_house_here", "_law_stand_here", "_law_room"]
theorem cFree : FnScope nFree ["_law_house_here", "_law_stand_here"] (defScope sFree) :=
  ⟨rfl, rfl, rfl, by decide +kernel, rfl, by decide +kernel, by decide +kernel⟩

def freeR (sizes : List Int) (rs : List (List Int)) : List Int := List.zipWith (fun s r => s - r.sum) sizes rs
def spFree : Sp := fun vs H Q _ => ∃ (d a : Addr) (b : Sd) (h z p : Addr) (sizes : List Int) (kinds : Int) (rs : List (List Int)), vs = [.ref h, .ref p] ∧ Hs H h z sizes kinds ∧ Snd d a b H p rs ∧ rs.length = sizes.length ∧ rs.length ≤ 100 ∧
  ∀ (H' : Hp) (l : Addr), Same H H' → H' l = some (.lst ((freeR sizes rs).map V.int)) → Q (.ref l) H'
theorem ok_free {f : Addr} {fd : FuncData} {k : Nat} (F : Fun K "_law_free" "_law_free" sFree f fd) (m_sum : mg "sum" = none) (m_len : mg "len" = none) (m_range : mg "range" = none) :
    FnOk P w K mg base CX0 (k + 1) f fd ["_law_house_here", "_law_stand_here"] spFree := by
  refine F.ok cFree (fun vs H Q E h => ?_) (fun cdv A outer s H vs Q E hr h => ?_)
  · obtain ⟨d, a, b, h, z, p, sizes, kinds, rs, rfl, _⟩ := h
    rfl
  · obtain ⟨d, a, b, h, z, p, sizes, kinds, rs, rfl, hs, sn, l1, l2, q⟩ := h
    obtain ⟨vs, hp, rv⟩ := sn.ex
    have lv := rv.length
    refine ⟨_, (pss_one (ps_ret (pe_lc (own := [("_law_room", 2)]) (g := gName 2) (tt := tYes)  rfl cFree.nd (pi_range1 (by rfl) m_range (pa_cons (pe_callB call_len_seq (by rfl) m_len PySem.boot_len (pa_cons (pv 1) pa_nil)) pa_nil)) (blkOk_by (N := nFree) (sc := defScope sFree) (by decide +kernel)) (fun _ _ _ _ _ => (pg_name (i := 2) cFree.nd rfl (.inl rfl))) (fun _ _ _ _ _ => pts_nil) (fun _ _ _ _ _ => (pe_op op_sub (pe_ix (r := rIxT K) ix_tup (pe_ix (r := rIxT K) ix_tup (pv 0) pe_int (fun _ _ => rfl)) (pv 2) (fun _ _ => rfl)) (pe_callB (r := rSumT K) (cr_sumT rfl) (by rfl) m_sum (by decide +kernel) (pa_cons (pe_ix (r := rIxT K) ix_tup (pv 1) (pv 2) (fun _ _ => rfl)) pa_nil))))))), ?_⟩
    refine ⟨.ref p, rfl, p, vs, rfl, .inr (SqT.of hp), _, rfl, by omega, by omega, fun L nL => ?_⟩
    refine lc_range (n := (vs.length : Int).toNat) (fun i G => Same H G ∧ G L = some (.lst (((freeR sizes rs).take i).map V.int)))
      ⟨same_new nL, upd_same⟩ (fun i G hi hP => ?_) (fun G hP => ?_)
    · obtain ⟨sm, fL⟩ := hP
      have hil : i < rs.length := by omega
      have g1 := List.getElem?_eq_getElem hil
      have g2 := List.getElem?_eq_getElem (show i < sizes.length by omega)
      obtain ⟨v, hv, q1, rfl, fq1, oq1⟩ := rv.at g1
      have e0 : (0 + (i : Int)) = (i : Int) := by omega
      have hG := hs.same sm
      refine ⟨rfl, .ref h, rfl, h, _, 0, .ref z, rfl, rfl, SqT.of hG.h, at0, .int (0 + i), rfl, z, _, _, .int sizes[i], rfl, rfl, SqT.of hG.z, ?_, .ref p, rfl, .int (0 + i), rfl, p, vs, _, .ref q1, rfl, rfl, SqT.of (sm _ _ hp), ?_,
        q1, rs[i], rfl, SqT.of (sm _ _ fq1), _, _, rfl, rfl, _, fL, ?_, ?_, ?_⟩
      · rw [e0]
        exact atI_nat (by rw [List.getElem?_map, g2]; rfl)
      · rw [e0]
        exact atI_nat hv
      · rw [List.length_map, List.length_take]
        exact small1000 (by omega)
      · intro y o hy
        rw [upd_ne (ne_of_none hy nL)]
        exact sm _ _ hy
      · have e : (freeR sizes rs)[i]? = some (sizes[i] - rs[i].sum) := by
          unfold freeR
          rw [List.getElem?_zipWith, g1, g2]
        rw [upd_same, List.take_add_one, e, List.map_append]
        rfl
    · obtain ⟨sm, fL⟩ := hP
      have e : (freeR sizes rs).take (vs.length : Int).toNat = freeR sizes rs := List.take_of_length_le (by unfold freeR; rw [List.length_zipWith]; omega)
      rw [e] at fL
      exact q _ L sm fL
end

end Fr

set_option Elab.async false
set_option linter.all false
set_option maxRecDepth 100000
namespace Fr
open PySem PySem.Spec PyProof.Rows L2

section
variable {P : Program} {w : World} {K : PySem.W.Frag} {mg : Str → Option Value} {base : Heap}
abbrev sLAmiss : Stmt := topS 16
abbrev nLAmiss : List Str := ["_law_stand_here", "_law_wish_here", "_law_row_here", "_law_wished", "_law_a", "_law_b"]
theorem cLAmiss : FnScope nLAmiss ["_law_stand_here", "_law_wish_here"] (defScope sLAmiss) :=
  ⟨rfl, rfl, rfl, by decide +kernel, rfl, by decide +kernel, by decide +kernel⟩

def spLAmiss : Sp := fun vs H Q _ => ∃ (d a : Addr) (b : Sd) (c : Nat) (p q : Addr) (rs ts : List (List Int)), vs = [.ref p, .ref q] ∧ Deck d a b H c ∧ Snd d a b H p rs ∧ Snd d a b H q ts ∧ Shp rs ts ∧
  ∀ (H' : Hp) (l : Addr) (ws : List V), Deck d a b H' c → Same H H' → H' l = some (.lst ws) → LRws d a b H' ws (amR rs ts) → Q (.ref l) H'
theorem ok_lamiss {f : Addr} {fd : FuncData} {k : Nat} (F : Fun K "_law_amiss" "_law_amiss" sLAmiss f fd) (m_zip : mg "zip" = none) :
    FnOk P w K mg base CX0 (k + 1) f fd ["_law_stand_here", "_law_wish_here"] spLAmiss := by
  refine F.ok cLAmiss (fun vs H Q E h => ?_) (fun cdv A outer s H vs Q E hr h => ?_)
  · obtain ⟨d, a, b, c, p, q, rs, ts, rfl, _⟩ := h
    rfl
  · obtain ⟨d, a, b, c, p, q, rs, ts, rfl, D, sp1, sq1, sh, qq⟩ := h
    obtain ⟨vs, hp, rv⟩ := sp1.ex
    obtain ⟨us, hq, ru⟩ := sq1.ex
    have lv := rv.length
    have lu := ru.length
    have l1 := sh.len
    have l2 := sh.few
    refine ⟨_, (pss_one (ps_ret (pe_lc (own := [("_law_row_here", 2), ("_law_wished", 3)]) (g := gTup K 2 (gCons (gName 2) (gCons (gName 3) gNil))) (tt := tYes)  rfl cLAmiss.nd (RZ.pi_zipA (by rfl) m_zip (pa_cons (pv 0) (pa_cons (pv 1) pa_nil))) (blkOk_by (N := nLAmiss) (sc := defScope sLAmiss) (by decide +kernel)) (fun _ _ _ _ _ => (pg_tup rfl (pgs_cons (pg_name (i := 2) cLAmiss.nd rfl (.inl rfl)) (pgs_cons (pg_name (i := 3) cLAmiss.nd rfl (.inl rfl)) pgs_nil)))) (fun _ _ _ _ _ => pts_nil) (fun _ _ _ _ _ => (pe_lc (own := [("_law_a", 4), ("_law_b", 5)]) (g := gTup K 2 (gCons (gName 4) (gCons (gName 5) gNil))) (tt := tYes) (wi := RZ.iZipA K (tCons (tVar 2) (tCons (tVar 3) tNil))) rfl cLAmiss.nd (RZ.pi_zipA (by rfl) m_zip (pa_cons (pv 2) (pa_cons (pv 3) pa_nil))) (blkOk_by (N := nLAmiss) (sc := scIn2 sLAmiss) (by decide +kernel)) (fun _ _ _ _ _ => (pg_tup rfl (pgs_cons (pg_name (i := 4) cLAmiss.nd rfl (.inl rfl)) (pgs_cons (pg_name (i := 5) cLAmiss.nd rfl (.inl rfl)) pgs_nil)))) (fun _ _ _ _ _ => pts_nil) (fun _ _ _ _ _ => (pe_op op_sub (pv 4) (pv 5)))))))), ?_⟩
    refine ⟨.ref p, rfl, .ref q, rfl, p, q, _, _, rfl, .inr ⟨SqT.of hp, SqT.of hq, fun L nL => ?_⟩⟩
    have oL := D.fresh nL
    refine lc_zipT (xs := vs) (ys := us) (by omega) (fun i G => Same H G ∧ Deck d a b G c ∧ ∃ ws, G L = some (.lst ws) ∧ V.ref L ∉ ws ∧ LRws d a b G ws ((amR rs ts).take i))
      ⟨same_new nL, D.new nL, [], upd_same, by simp, .nil⟩ (fun i G z => ⟨SqT.of (z.1 _ _ hp), SqT.of (z.1 _ _ hq)⟩) (fun i x y T G hx hy hP hT => ?_) (fun G hP => ?_)
    · obtain ⟨sm0, DG0, ws, fL0, nw, rw0⟩ := hP
      obtain ⟨r, hr1, q1, rfl, fq1, oq1⟩ := rv.get hx
      obtain ⟨t, ht1, q2, rfl, fq2, oq2⟩ := ru.get hy
      have rl := sh.row i r t hr1 ht1
      have smT := same_new (o := .tup [.ref q1, .ref q2]) hT
      refine ⟨T, [.ref q1, .ref q2], rfl, SqT.of upd_same, rfl, .ref q1, _, rfl, .ref q2, _, rfl, rfl, rfl, ?_⟩
      have sm := sm0.trans smT
      have DG := DG0.new (o := .tup [.ref q1, .ref q2]) hT
      have fL := smT _ _ fL0
      have rw1 := rw0.same smT
      generalize upd G T (.tup [.ref q1, .ref q2]) = G1 at sm DG fL rw1
      refine ⟨.ref q1, rfl, .ref q2, rfl, q1, q2, _, _, rfl, .inr ⟨SqT.of (sm _ _ fq1), SqT.of (sm _ _ fq2), fun M nM => ?_⟩⟩
      have oM := DG.fresh nM
      have nMw : V.ref M ∉ ws := fun z => by
        obtain ⟨o, ho⟩ := rw1.trk z
        rw [nM] at ho
        cases ho
      have nLM : L ≠ M := ne_of_none fL nM
      refine lc_zipT (xs := r.map V.int) (ys := t.map V.int) (by rw [List.length_map, List.length_map]; exact rl.1) (fun m G2 => Same G1 G2 ∧ Deck d a b G2 c ∧ G2 M = some (.lst (((List.zipWith (· - ·) r t).take m).map V.int)))
        ⟨same_new nM, DG.new nM, upd_same⟩ (fun m G2 z => ⟨SqT.of (z.1 _ _ (sm _ _ fq1)), SqT.of (z.1 _ _ (sm _ _ fq2))⟩) (fun m x y T2 G2 hx2 hy2 hP2 hT2 => ?_) (fun G2 hP2 => ?_)
      · obtain ⟨s2, D2, fM⟩ := hP2
        rw [List.getElem?_map] at hx2 hy2
        cases hxi : r[m]? with
        | none => rw [hxi] at hx2; cases hx2
        | some x0 =>
        cases hyi : t[m]? with
        | none => rw [hyi] at hy2; cases hy2
        | some y0 =>
        rw [hxi] at hx2
        rw [hyi] at hy2
        have ex : V.int x0 = x := Option.some.inj hx2
        have ey : V.int y0 = y := Option.some.inj hy2
        subst ex ey
        have s3 := same_new (o := .tup [.int x0, .int y0]) hT2
        have fM3 := s3 _ _ fM
        have hml : m < r.length := (List.getElem?_eq_some_iff.mp hxi).1
        refine ⟨T2, [.int x0, .int y0], rfl, SqT.of upd_same, rfl, .int x0, _, rfl, .int y0, _, rfl, rfl, rfl, .int x0, rfl, .int y0, rfl, x0, y0, rfl, rfl, _, fM3, ?_, ?_, (D2.new hT2).put (off oM), ?_⟩
        · rw [List.length_map, List.length_take]
          exact small1000 (by omega)
        · intro z o hz
          rw [upd_ne (ne_of_none hz nM)]
          exact s3 _ _ (s2 _ _ hz)
        · have e : (List.zipWith (· - ·) r t)[m]? = some (x0 - y0) := by rw [List.getElem?_zipWith, hxi, hyi]
          rw [upd_same, List.take_add_one, e, List.map_append]
          rfl
      · obtain ⟨s2, D2, fM⟩ := hP2
        have e : (List.zipWith (· - ·) r t).take (r.map V.int).length = List.zipWith (· - ·) r t := List.take_of_length_le (by rw [List.length_zipWith, List.length_map]; omega)
        rw [e] at fM
        have fL3 := s2 _ _ fL
        have lw := rw1.length
        rw [List.length_take] at lw
        have hi : i < vs.length := (List.getElem?_eq_some_iff.mp hx).1
        refine ⟨ws, fL3, small1000 (by omega), ?_, D2.put (off oL), ws ++ [.ref M], upd_same, ?_, ?_⟩
        · intro z o hz
          rw [upd_ne (ne_of_none hz nL)]
          exact s2 _ _ (sm _ _ hz)
        · intro z
          rcases List.mem_append.mp z with e | e
          · exact nw e
          · have := List.mem_singleton.mp e
            injection this with this
            exact nLM this
        · have e2 : (amR rs ts)[i]? = some (List.zipWith (· - ·) r t) := by
            unfold amR
            rw [List.getElem?_zipWith, hr1, ht1]
          rw [List.take_add_one, e2]
          refine LRws.put (fun z => ?_) (LRws.snoc fM oM nMw (rw1.same s2))
          rcases List.mem_append.mp z with e | e
          · exact nw e
          · have := List.mem_singleton.mp e
            injection this with this
            exact nLM this
    · obtain ⟨sm, DG, ws, fL, nw, rw1⟩ := hP
      have e : (amR rs ts).take vs.length = amR rs ts := List.take_of_length_le (by unfold amR; rw [List.length_zipWith]; omega)
      rw [e] at rw1
      exact qq _ L ws DG sm fL rw1
abbrev sLTooMany : Stmt := topS 17
abbrev nLTooMany : List Str := ["_law_stand_here", "_law_wish_here", "_law_found", "_law_row_here", "_law_number"]
theorem cLTooMany : FnScope nLTooMany ["_law_stand_here", "_law_wish_here"] (defScope sLTooMany) :=
  ⟨rfl, rfl, rfl, by decide +kernel, rfl, by decide +kernel, by decide +kernel⟩

theorem LRws.get {d a : Addr} {b : Sd} {H : Hp} : ∀ {vs : List V} {rs : List (List Int)} {i : Nat} {v : V}, LRws d a b H vs rs → vs[i]? = some v → ∃ q r, v = .ref q ∧ rs[i]? = some r ∧ H q = some (.lst (r.map V.int)) ∧ ¬ Own d a b q
  | _, _, _, _, .nil, e => by simp at e
  | _, _, 0, _, .cons h n _ _, e => by
    have e1 := Option.some.inj e
    subst e1
    exact ⟨_, _, rfl, rfl, h, n⟩
  | _, _, i + 1, _, .cons _ _ _ r, e => LRws.get (i := i) r e
theorem sum_pos (l : List Int) : (l.filter fun x => decide (0 < x)).sum = (l.map posI).sum := by
  induction l with
  | nil => rfl
  | cons x l ih =>
    rw [List.map_cons, List.sum_cons, List.filter_cons]
    by_cases h : 0 < x
    · rw [if_pos (decide_eq_true h), List.sum_cons, ih]
      unfold posI
      rw [if_pos h]
    · rw [if_neg (by simpa using h), ih]
      unfold posI
      rw [if_neg h]
      omega
theorem tm_take {rs : List (List Int)} {i : Nat} {r : List Int} (h : rs[i]? = some r) : tmR (rs.take (i + 1)) = tmR (rs.take i) + (r.map posI).sum := by
  unfold tmR
  rw [List.take_add_one, h]
  simp
theorem ok_ltoomany {f : Addr} {fd : FuncData} {k j : Nat} (F : Fun K "_law_too_many" "_law_too_many" sLTooMany f fd) (m_sum : mg "sum" = none)
    (Ca : Callee P w K mg base j "_law_amiss" ["_law_stand_here", "_law_wish_here"] spLAmiss) (hj : j ≤ k) :
    FnOk P w K mg base CX0 (k + 1) f fd ["_law_stand_here", "_law_wish_here"] spTooMany := by
  refine F.ok cLTooMany (fun vs H Q E h => ?_) (fun cdv A outer s H vs Q E hr h => ?_)
  · obtain ⟨d, a, b, c, p, q, rs, ts, rfl, _⟩ := h
    rfl
  · obtain ⟨d, a, b, c, p, q, rs, ts, rfl, D, sp1, sq1, sh, qq⟩ := h
    have hr := hr.mono hj
    refine ⟨_, (pss_cons (ps_set (i := 2) cLTooMany.nd rfl (.inl rfl) pe_int)
        (pss_cons (ps_for PassesOwn.never rfl (pi_list (pe_u Ca hr (by rfl) (pa_cons (pv 0) (pa_cons (pv 1) pa_nil)))) (pg_name (i := 3) cLTooMany.nd rfl (.inl rfl)) (pss_one (ps_set (i := 2) cLTooMany.nd rfl (.inl rfl) (pe_op op_add (pv 2) (pe_callB (cr_sum rfl) (by rfl) m_sum (by decide +kernel) (pa_cons (pe_lc (own := [("_law_number", 4)]) (g := gName 4)   rfl cLTooMany.nd (pi_list (pv 3)) (blkOk_by (N := nLTooMany) (sc := defScope sLTooMany) (by decide +kernel)) (fun _ _ _ _ _ => (pg_name (i := 4) cLTooMany.nd rfl (.inl rfl))) (fun _ _ _ _ _ => (pts_one (pt_cmpR op_gt (pv 4) pe_int (nomark _)))) (fun _ _ _ _ _ => (pv 4))) pa_nil))))))
        (pss_one (ps_ret (pv 2))))), ?_⟩
    refine ⟨.ref p, rfl, .ref q, rfl, d, a, b, c, p, q, rs, ts, rfl, D, sp1, sq1, sh, fun G l ws DG sG fl lw => ?_⟩
    have ll := lw.length
    have lrow : ∀ (i : Nat) (r : List Int), (amR rs ts)[i]? = some r → r.length ≤ 100 := by
      intro i r hi
      unfold amR at hi
      rw [List.getElem?_zipWith] at hi
      cases h1 : rs[i]? with
      | none => rw [h1] at hi; cases hi
      | some r1 =>
      cases h2 : ts[i]? with
      | none => rw [h1, h2] at hi; cases hi
      | some t1 =>
      rw [h1, h2] at hi
      have e := Option.some.inj hi
      rw [← e, List.length_zipWith]
      have := sh.row i r1 t1 h1 h2
      omega
    refine ⟨l, rfl, ⟨_, SqL.of fl⟩, for_list (xs := ws) (fun i σ G1 => Same G G1 ∧ ∃ y3 y4 : Option V, σ = [some (.ref p), some (.ref q), some (.int (tmR ((amR rs ts).take i))), y3, y4])
      ⟨Same.refl G, none, none, rfl⟩ (fun i σ G1 _ z => SqL.of (z.1 _ _ fl)) (fun i x σ G1 hx z => ?_) (fun σ G1 z => ?_)⟩
    · obtain ⟨s1, y3, y4, rfl⟩ := z
      obtain ⟨q1, r, rfl, hr1, fq1, oq1⟩ := lw.get hx
      have lr := lrow i r hr1
      refine ⟨_, rfl, .ref q1, rfl, q1, rfl, ⟨_, SqL.of (s1 _ _ fq1)⟩, fun M nM => ?_⟩
      refine lc_list (xs := r.map V.int) (fun m G2 => Same G1 G2 ∧ G2 M = some (.lst (((r.take m).filter fun x => decide (0 < x)).map V.int)))
        ⟨same_new nM, upd_same⟩ (fun m G2 _ z => SqL.of (z.1 _ _ (s1 _ _ fq1))) (fun m x G2 hx2 z => ?_) (fun G2 z => ?_)
      · obtain ⟨s2, fM⟩ := z
        rw [List.getElem?_map] at hx2
        cases hxi : r[m]? with
        | none => rw [hxi] at hx2; cases hx2
        | some x0 =>
        rw [hxi] at hx2
        have ex : V.int x0 = x := Option.some.inj hx2
        subst ex
        refine ⟨rfl, .int x0, rfl, x0, 0, rfl, rfl, _, rfl, ite2 (fun c1 => ?_) (fun c1 => ?_)⟩
        · refine ⟨.int x0, rfl, _, fM, ?_, ?_, ?_⟩
          · rw [List.length_map]
            have := List.length_filter_le (fun x : Int => decide (0 < x)) (r.take m)
            rw [List.length_take] at this
            exact small1000 (by omega)
          · intro z o hz
            rw [upd_ne (ne_of_none hz nM)]
            exact s2 _ _ hz
          · rw [upd_same, List.take_add_one, hxi, List.filter_append]
            simp [of_decide_eq_true c1]
        · refine ⟨s2, ?_⟩
          rw [fM, List.take_add_one, hxi, List.filter_append]
          have c1 : ¬ 0 < x0 := fun z => c1 (decide_eq_true z)
          simp [c1]
      · obtain ⟨s2, fM⟩ := z
        rw [List.length_map, List.take_length] at fM
        refine ⟨M, _, rfl, SqL.of fM, _, _, rfl, rfl, s1.trans s2, some (.ref q1), y4, ?_⟩
        rw [sum_pos, tm_take hr1]
        rfl
    · obtain ⟨s1, y3, y4, rfl⟩ := z
      rw [ll, List.take_length]
      exact ⟨_, rfl, qq _ (sG.trans s1)⟩

end

end Fr

set_option Elab.async false
set_option linter.all false
set_option maxRecDepth 100000
namespace Fr
open PySem PySem.Spec PyProof.Rows L2

section
variable {P : Program} {w : World} {K : PySem.W.Frag} {mg : Str → Option Value} {base : Heap}
/-! columns, and what a put does -/
def colS (rs : List (List Int)) (k : Nat) : Int := (rs.map fun r => r.getD k 0).sum
structure Rct (n k : Nat) (rs : List (List Int)) : Prop where
  len : rs.length = n
  row : ∀ r ∈ rs, r.length = k
theorem Rct.at {n k i j : Nat} {rs : List (List Int)} (s : Rct n k rs) (hi : i < n) (hj : j < k) : ∃ r x, rs[i]? = some r ∧ r[j]? = some x := by
  have h1 := List.getElem?_eq_getElem (show i < rs.length by rw [s.len]; exact hi)
  have h2 := s.row _ (List.mem_of_getElem? h1)
  exact ⟨_, _, h1, List.getElem?_eq_getElem (by rw [h2]; exact hj)⟩
theorem OkS.rct {sizes : List Int} {kinds : Int} {rs : List (List Int)} (o : OkS sizes kinds rs) : Rct sizes.length kinds.toNat rs := by
  refine ⟨o.len, fun r hr => ?_⟩
  obtain ⟨i, hi⟩ := List.getElem?_of_mem hr
  have hi2 : i < sizes.length := by rw [← o.len]; exact (List.getElem?_eq_some_iff.mp hi).1
  exact (o.row i _ r (List.getElem?_eq_getElem hi2) hi).1
/-- entry by entry, row by row -/
structure Dl (rs ts : List (List Int)) (δ : Nat → Nat → Int) (σ : Nat → Int) : Prop where
  len : ts.length = rs.length
  row : ∀ (i : Nat) (t : List Int), ts[i]? = some t → ∃ r, rs[i]? = some r ∧ t.length = r.length ∧ t.sum = r.sum + σ i ∧ ∀ (k : Nat) (y : Int), t[k]? = some y → ∃ x, r[k]? = some x ∧ y = x + δ i k
theorem Dl.trans {rs ts us : List (List Int)} {δ ε : Nat → Nat → Int} {σ τ : Nat → Int} (h1 : Dl rs ts δ σ) (h2 : Dl ts us ε τ) : Dl rs us (fun i k => δ i k + ε i k) (fun i => σ i + τ i) := by
  refine ⟨h2.len.trans h1.len, fun i u hu => ?_⟩
  obtain ⟨t, ht, l2, s2, e2⟩ := h2.row i u hu
  obtain ⟨r, hr, l1, s1, e1⟩ := h1.row i t ht
  refine ⟨r, hr, l2.trans l1, by omega, fun k y hy => ?_⟩
  obtain ⟨x, hx, ex⟩ := e2 k y hy
  obtain ⟨x0, hx0, ex0⟩ := e1 k x hx
  exact ⟨x0, hx0, by omega⟩
theorem sum_setI : ∀ {l : List Int} {i : Nat} {x v : Int}, l[i]? = some x → (l.set i v).sum = l.sum - x + v
  | y :: l, 0, x, v, h => by
    have e := Option.some.inj h
    rw [List.set_cons_zero, List.sum_cons, List.sum_cons]
    omega
  | y :: l, i + 1, x, v, h => by
    have := sum_setI (v := v) (show l[i]? = some x from h)
    rw [List.set_cons_succ, List.sum_cons, List.sum_cons]
    omega
theorem put_dl {rs : List (List Int)} {r : List Int} {i k : Nat} {x m : Int} (hr : rs[i]? = some r) (hx : r[k]? = some x) :
    Dl rs (rs.set i (r.set k (x + m))) (fun i' k' => if i' = i ∧ k' = k then m else 0) (fun i' => if i' = i then m else 0) := by
  refine ⟨List.length_set, fun i' t ht => ?_⟩
  rw [List.getElem?_set] at ht
  split at ht
  · rename_i e
    subst e
    split at ht
    · have e := Option.some.inj ht
      subst e
      refine ⟨r, hr, List.length_set, ?_, fun k' y hy => ?_⟩
      · rw [sum_setI hx, if_pos rfl]
        omega
      · rw [List.getElem?_set] at hy
        split at hy
        · rename_i e
          subst e
          split at hy
          · have e := Option.some.inj hy
            exact ⟨x, hx, by rw [if_pos ⟨rfl, rfl⟩]; omega⟩
          · cases hy
        · rename_i ne
          exact ⟨y, hy, by rw [if_neg fun z => ne z.2.symm]; omega⟩
    · cases ht
  · rename_i ne
    refine ⟨t, ht, rfl, by rw [if_neg fun z => ne z.symm]; omega, fun k' y hy => ⟨y, hy, by rw [if_neg fun z => ne z.1.symm]; omega⟩⟩
theorem put_rct {n l i k : Nat} {rs : List (List Int)} {r : List Int} {v : Int} (s : Rct n l rs) (hr : rs[i]? = some r) : Rct n l (rs.set i (r.set k v)) := by
  refine ⟨by rw [List.length_set]; exact s.len, fun t ht => ?_⟩
  rcases List.mem_or_eq_of_mem_set ht with e | e
  · exact s.row t e
  · rw [e, List.length_set]
    exact s.row r (List.mem_of_getElem? hr)
theorem put_col : ∀ {rs : List (List Int)} {r : List Int} {i k : Nat} {x m : Int}, rs[i]? = some r → r[k]? = some x → ∀ j : Nat, colS (rs.set i (r.set k (x + m))) j = colS rs j + if j = k then m else 0
  | t :: rs, r, 0, k, x, m, hr, hx, j => by
    have e : t = r := Option.some.inj hr
    subst e
    have hk : k < t.length := (List.getElem?_eq_some_iff.mp hx).1
    simp only [colS, List.set_cons_zero, List.map_cons, List.sum_cons, List.getD_eq_getElem?_getD, List.getElem?_set]
    by_cases c : k = j
    · subst c
      have hg : t[k] = x := (List.getElem?_eq_some_iff.mp hx).2
      simp [hk, hg]
      omega
    · have c' : ¬ j = k := fun z => c z.symm
      simp [c, c']
  | t :: rs, r, i + 1, k, x, m, hr, hx, j => by
    have ih := put_col (m := m) (show rs[i]? = some r from hr) hx j
    simp only [colS, List.set_cons_succ, List.map_cons, List.sum_cons] at ih ⊢
    omega
theorem OkS.of_dl {sizes : List Int} {kinds : Int} {rs ts : List (List Int)} {δ : Nat → Nat → Int} {σ : Nat → Int} (o : OkS sizes kinds rs) (h : Dl rs ts δ σ)
    (h1 : ∀ (i k : Nat) (r : List Int) (x : Int), rs[i]? = some r → r[k]? = some x → 0 ≤ x → 0 ≤ x + δ i k) (h2 : ∀ (i : Nat) (r : List Int) (z : Int), rs[i]? = some r → sizes[i]? = some z → r.sum ≤ z → r.sum + σ i ≤ z) : OkS sizes kinds ts := by
  refine ⟨h.len.trans o.len, fun i z t hz ht => ?_⟩
  obtain ⟨r, hr, l, s, e⟩ := h.row i t ht
  obtain ⟨o1, o2, o3⟩ := o.row i z r hz hr
  refine ⟨l.trans o1, fun y hy => ?_, ?_⟩
  · obtain ⟨k, hk⟩ := List.getElem?_of_mem hy
    obtain ⟨x, hx, ex⟩ := e k y hk
    have := h1 i k r x hr hx (o2 x (List.mem_of_getElem? hx))
    omega
  · have := h2 i r z hr hz o3
    omega
end

end Fr

set_option Elab.async false
set_option linter.all false
set_option maxRecDepth 100000
namespace Fr
open PySem PySem.Spec PyProof.Rows L2

section
variable {P : Program} {w : World} {K : PySem.W.Frag} {mg : Str → Option Value} {base : Heap}
abbrev sWish : Stmt := topS 14
abbrev nWish : List Str := ["_law_deck_here", "_law_house_here", "_law_stand_here", "_law_turn", "_law_one_here", "_law_other", "_law_kind", "_law_for_it", "_law_many"]
theorem cWish : FnScope nWish ["_law_deck_here", "_law_house_here", "_law_stand_here"] (defScope sWish) :=
  ⟨rfl, rfl, rfl, by decide +kernel, rfl, by decide +kernel, by decide +kernel⟩

def spWish : Sp := fun vs H Q _ => ∃ (d a : Addr) (b : Sd) (h z p : Addr) (sizes : List Int) (kinds : Int) (rows : List (List Int)) (c : Nat), vs = [.ref d, .ref h, .ref p] ∧ Deck d a b H c ∧ Hs H h z sizes kinds ∧ ¬ Own d a b h ∧ ¬ Own d a b z ∧
  1 ≤ sizes.length ∧ sizes.length ≤ 9 ∧ (∀ s ∈ sizes, 1 ≤ s ∧ s ≤ 10 ^ 12) ∧ 1 ≤ kinds ∧ kinds ≤ 6 ∧ Snd d a b H p rows ∧ OkS sizes kinds rows ∧ c + 100 < 2 ^ 30 ∧
  ∀ (H' : Hp) (p' : Addr) (ts : List (List Int)), Deck d a b H' (c + 100) → Kp d a b H H' → Snd d a b H' p' ts → OkS sizes kinds ts → (∀ k, colS ts k = colS rows k) → Q (.ref p') H'
theorem min_le {x y : Int} : (if y < x then y else x) ≤ x ∧ (if y < x then y else x) ≤ y := by
  split <;> omega
theorem ok_wish {f : Addr} {fd : FuncData} {k j : Nat} (F : Fun K "_law_wish" "_law_wish" sWish f fd) (m_min : mg "min" = none) (m_range : mg "range" = none) (m_len : mg "len" = none)
    (Cn : Callee P w K mg base j "_law_next" ["_law_deck_here", "_law_many"] spNext) (Ca : Callee P w K mg base j "_law_amount" ["_law_deck_here", "_law_high"] spAmount)
    (Cf : Callee P w K mg base j "_law_free" ["_law_house_here", "_law_stand_here"] spFree) (Cp : Callee P w K mg base j "_law_put" ["_law_stand_here", "_law_room", "_law_kind", "_law_many"] spPut) (hj : j ≤ k) :
    FnOk P w K mg base CX0 (k + 1) f fd ["_law_deck_here", "_law_house_here", "_law_stand_here"] spWish := by
  refine F.ok cWish (fun vs H Q E h => ?_) (fun cdv A outer s H vs Q E hr h => ?_)
  · obtain ⟨d, a, b, h, z, p, sizes, kinds, rows, c, rfl, _⟩ := h
    rfl
  · obtain ⟨d, a, b, h, z, p, sizes, kinds, rows, c, rfl, D, hs, oh, oz, ls1, ls9, hsz, k1, k6, sn, ok, hc, q⟩ := h
    have hr := hr.mono hj
    refine ⟨_, (pss_cons (ps_for PassesOwn.never rfl (pi_range1 (by rfl) m_range (pa_cons (pe_u Cn hr (by rfl) (pa_cons (pv 0) (pa_cons pe_int pa_nil))) pa_nil)) (pg_name (i := 3) cWish.nd rfl (.inl rfl)) (pss_cons (ps_par (by rfl) cWish.nd (i := 4) (j := 5) rfl rfl (by decide) rfl rfl (pa_cons (pe_u Cn hr (by rfl) (pa_cons (pv 0) (pa_cons (pe_callB call_len_seq (by rfl) m_len PySem.boot_len (pa_cons (pv 2) pa_nil)) pa_nil))) (pa_cons (pe_u Cn hr (by rfl) (pa_cons (pv 0) (pa_cons (pe_callB call_len_seq (by rfl) m_len PySem.boot_len (pa_cons (pv 2) pa_nil)) pa_nil))) pa_nil)) (by rfl))
        (pss_cons (ps_par (by rfl) cWish.nd (i := 6) (j := 7) rfl rfl (by decide) rfl rfl (pa_cons (pe_u Cn hr (by rfl) (pa_cons (pv 0) (pa_cons (pe_ix ix_tup (pv 1) pe_int (fun _ _ => rfl)) pa_nil))) (pa_cons (pe_u Cn hr (by rfl) (pa_cons (pv 0) (pa_cons (pe_ix ix_tup (pv 1) pe_int (fun _ _ => rfl)) pa_nil))) pa_nil)) (by rfl))
        (pss_one (ps_if (PW.pt (pw_and (pt_cmpR op_ne (pv 4) (pv 5) (nomark _)) (pw_and1 (pt_cmpR op_eq (pe_u Cn hr (by rfl) (pa_cons (pv 0) (pa_cons pe_int pa_nil))) pe_int (nomark _))))) (pss_cons (ps_set (i := 8) cWish.nd rfl (.inl rfl) (pe_u Ca hr (by rfl) (pa_cons (pv 0) (pa_cons (pe_callB (call_min2 rfl) (by rfl) m_min (by decide +kernel) (pa_cons (pe_ix ix_tup (pe_ix ix_tup (pv 2) (pv 4) (fun _ _ => rfl)) (pv 6) (fun _ _ => rfl)) (pa_cons (pe_ix ix_list (pe_u Cf hr (by rfl) (pa_cons (pv 1) (pa_cons (pv 2) pa_nil))) (pv 5) (fun _ _ => rfl)) pa_nil))) pa_nil))))
        (pss_one (ps_set (i := 2) cWish.nd rfl (.inl rfl) (pe_u Cp hr (by rfl) (pa_cons (pe_u Cp hr (by rfl) (pa_cons (pv 2) (pa_cons (pv 4) (pa_cons (pv 6) (pa_cons (pe_op op_sub pe_int (pv 8)) pa_nil))))) (pa_cons (pv 5) (pa_cons (pv 6) (pa_cons (pv 8) pa_nil)))))))) (pss_one (ps_if (PW.pt (pw_and (pt_cmpR op_ne (pv 4) (pv 5) (nomark _)) (pw_and1 (pt_cmpR op_ne (pv 6) (pv 7) (nomark _))))) (pss_cons (ps_set (i := 8) cWish.nd rfl (.inl rfl) (pe_u Ca hr (by rfl) (pa_cons (pv 0) (pa_cons (pe_callB (call_min2 rfl) (by rfl) m_min (by decide +kernel) (pa_cons (pe_ix ix_tup (pe_ix ix_tup (pv 2) (pv 4) (fun _ _ => rfl)) (pv 6) (fun _ _ => rfl)) (pa_cons (pe_ix ix_tup (pe_ix ix_tup (pv 2) (pv 5) (fun _ _ => rfl)) (pv 7) (fun _ _ => rfl)) pa_nil))) pa_nil))))
        (pss_cons (ps_set (i := 2) cWish.nd rfl (.inl rfl) (pe_u Cp hr (by rfl) (pa_cons (pe_u Cp hr (by rfl) (pa_cons (pv 2) (pa_cons (pv 4) (pa_cons (pv 6) (pa_cons (pe_op op_sub pe_int (pv 8)) pa_nil))))) (pa_cons (pv 5) (pa_cons (pv 6) (pa_cons (pv 8) pa_nil))))))
        (pss_one (ps_set (i := 2) cWish.nd rfl (.inl rfl) (pe_u Cp hr (by rfl) (pa_cons (pe_u Cp hr (by rfl) (pa_cons (pv 2) (pa_cons (pv 5) (pa_cons (pv 7) (pa_cons (pe_op op_sub pe_int (pv 8)) pa_nil))))) (pa_cons (pv 4) (pa_cons (pv 7) (pa_cons (pv 8) pa_nil))))))))) pss_nil)))))))
        (pss_one (ps_ret (pv 2)))), ?_⟩
    refine ⟨.ref d, rfl, d, a, b, 9, c, rfl, D, by decide, by decide, by omega, fun H1 r1 D1 kp1 r10 r11 => ?_⟩
    refine ⟨r1, rfl, by omega, by omega, for_range (n := r1.toNat) (fun i σ G => ∃ (y3 y4 y5 y6 y7 y8 : Option V) (p1 : Addr) (ts : List (List Int)), σ = [some (.ref d), some (.ref h), some (.ref p1), y3, y4, y5, y6, y7, y8] ∧
      Deck d a b G (c + 1 + 8 * i) ∧ Kp d a b H G ∧ Hs G h z sizes kinds ∧ Snd d a b G p1 ts ∧ OkS sizes kinds ts ∧ ∀ k, colS ts k = colS rows k)
      ⟨none, none, none, none, none, none, p, rows, rfl, D1, kp1, hs.keep kp1 oh oz, sn.keep kp1, ok, fun _ => rfl⟩ (fun i σ G hi hP => ?_) (fun σ G hP => ?_)⟩
    · obtain ⟨y3, y4, y5, y6, y7, y8, p1, ts, rfl, DG, kG, hG, sG, okG, cG⟩ := hP
      obtain ⟨vs, hp, rv⟩ := sG.ex
      have lv := rv.length
      have lt : ts.length = sizes.length := okG.len
      refine ⟨.ref d, rfl, .ref p1, rfl, p1, vs, rfl, .inr (SqT.of hp), d, a, b, (vs.length : Int), _, rfl, DG, by omega, Int.lt_of_le_of_lt (show (vs.length : Int) ≤ 9 by omega) (by decide), by omega, fun G1 s1 D1 k1' s10 s11 => ?_⟩
      have hp1 := k1' _ _ hp sG.no
      refine ⟨.ref d, rfl, .ref p1, rfl, p1, vs, rfl, .inr (SqT.of hp1), d, a, b, (vs.length : Int), _, rfl, D1, by omega, Int.lt_of_le_of_lt (show (vs.length : Int) ≤ 9 by omega) (by decide), by omega, fun G2 s2 D2 k2 s20 s21 => ⟨.int s1, .int s2, rfl, ?_⟩⟩
      have hG2 := (hG.keep k1' oh oz).keep k2 oh oz
      refine ⟨.ref d, rfl, .ref h, rfl, h, _, 1, .int kinds, rfl, rfl, SqT.of hG2.h, at1, d, a, b, kinds, _, rfl, D2, by omega, Int.lt_of_le_of_lt (show kinds ≤ 9 by omega) (by decide), by omega, fun G3 s3 D3 k3 s30 s31 => ?_⟩
      have hG3 := hG2.keep k3 oh oz
      refine ⟨.ref d, rfl, .ref h, rfl, h, _, 1, .int kinds, rfl, rfl, SqT.of hG3.h, at1, d, a, b, kinds, _, rfl, D3, by omega, Int.lt_of_le_of_lt (show kinds ≤ 9 by omega) (by decide), by omega, fun G4 s4 D4 k4 s40 s41 => ⟨.int s3, .int s4, rfl, ?_⟩⟩
      have hG4 := hG3.keep k4 oh oz
      have k14 := k1'.trans (k2.trans (k3.trans k4))
      have sG4 := sG.keep k14
      have kG4 := kG.trans k14
      clear hG hG2 hG3 hp hp1 k14 rv
      obtain ⟨one, rfl⟩ : ∃ m : Nat, s1 = (m : Int) := ⟨_, (Int.toNat_of_nonneg s10).symm⟩
      obtain ⟨oth, rfl⟩ : ∃ m : Nat, s2 = (m : Int) := ⟨_, (Int.toNat_of_nonneg s20).symm⟩
      obtain ⟨kd, rfl⟩ : ∃ m : Nat, s3 = (m : Int) := ⟨_, (Int.toNat_of_nonneg s30).symm⟩
      obtain ⟨fi, rfl⟩ : ∃ m : Nat, s4 = (m : Int) := ⟨_, (Int.toNat_of_nonneg s40).symm⟩
      have rc := okG.rct
      have h1n : one < sizes.length := by omega
      have h2n : oth < sizes.length := by omega
      have hkk : kd < kinds.toNat := by omega
      have hff : fi < kinds.toNat := by omega
      have l9 : ∀ {us : List (List Int)}, Rct sizes.length kinds.toNat us → us.length ≤ 100 := fun hu => by rw [hu.len]; omega
      have skip : ∀ (G5 : Hp), Deck d a b G5 (c + 1 + 8 * i + 5) → Kp d a b G4 G5 → ∃ (y3 y4 y5 y6 y7 y8' : Option V) (p1' : Addr) (ts : List (List Int)), [some (.ref d), some (.ref h), some (.ref p1), some (.int (0 + i)), some (.int one), some (.int oth), some (.int kd), some (.int fi), y8] = [some (.ref d), some (.ref h), some (.ref p1'), y3, y4, y5, y6, y7, y8'] ∧
          Deck d a b G5 (c + 1 + 8 * (i + 1)) ∧ Kp d a b H G5 ∧ Hs G5 h z sizes kinds ∧ Snd d a b G5 p1' ts ∧ OkS sizes kinds ts ∧ ∀ k, colS ts k = colS rows k := fun G5 D5 k5 =>
        ⟨_, _, _, _, _, _, p1, ts, rfl, D5.mono (by omega), kG4.trans k5, hG4.keep k5 oh oz, sG4.keep k5, okG, cG⟩
      obtain ⟨r, x, hr1, hx1⟩ := rc.at h1n hkk
      have okr := okG.row one _ r (List.getElem?_eq_getElem h1n) hr1
      have xb := okr.2.1 x (List.mem_of_getElem? hx1)
      have xs := mem_sum okr.2.1 (List.mem_of_getElem? hx1)
      have hz1 := hsz _ (List.getElem_mem h1n)
      refine ⟨.int one, rfl, .int oth, rfl, rfl, _, rfl, ite2 (fun c1 => ?_) (fun c1 => iteF ?_)⟩
      · have ne : one ≠ oth := fun e => by subst e; simp at c1
        refine ⟨.ref d, rfl, d, a, b, 3, _, rfl, D4, by decide, by decide, by omega, fun G5 s5 D5 k5 s50 s51 => ⟨rfl, _, rfl, ite2 (fun c2 => ?_) (fun c2 => ?_)⟩⟩
        · obtain ⟨vs5, hp5, rv5⟩ := (sG4.keep k5).ex
          have hG5 := hG4.keep k5 oh oz
          obtain ⟨v0, hv0, q0, rfl, fq0, oq0⟩ := rv5.at hr1
          obtain ⟨t, ht⟩ : ∃ t, ts[oth]? = some t := ⟨_, List.getElem?_eq_getElem (show oth < ts.length by omega)⟩
          have okt := okG.row oth _ t (List.getElem?_eq_getElem h2n) ht
          have hfr : (freeR sizes ts)[oth]? = some (sizes[oth] - t.sum) := by
            unfold freeR
            rw [List.getElem?_zipWith, List.getElem?_eq_getElem h2n, ht]
          refine ⟨.ref d, rfl, .ref p1, rfl, .int one, rfl, p1, vs5, one, .ref q0, rfl, rfl, SqT.of hp5, atI_nat hv0, .int kd, rfl, q0, _, kd, .int x, rfl, rfl, SqT.of fq0, atI_nat (by rw [List.getElem?_map, hx1]; rfl),
            .ref h, rfl, .ref p1, rfl, d, a, b, h, z, p1, sizes, kinds, ts, rfl, hG5, sG4.keep k5, lt, by omega, fun G6 l s6 fl => ?_⟩
          have k6' : Kp d a b G5 G6 := Kp.of s6
          have mn := min_le (x := x) (y := sizes[oth] - t.sum)
          refine ⟨.int oth, rfl, l, _, oth, .int (sizes[oth] - t.sum), rfl, rfl, SqL.of fl, atI_nat (by rw [List.getElem?_map, hfr]; rfl), x, _, rfl, d, a, b, _, _, rfl, D5.same s6, by split <;> omega, by omega, by omega, fun G7 m D7 k7 m0 m1 => ?_⟩
          have k47 := k5.trans (k6'.trans k7)
          have hG7 := hG4.keep k47 oh oz
          have sG7 := sG4.keep k47
          refine ⟨.ref p1, rfl, .int one, rfl, .int kd, rfl, .int m, rfl, 0, m, rfl, rfl, d, a, b, _, p1, ts, one, kd, 0 - m, r, x, rfl, D7, sG7, by omega, hr1, hx1, fun G8 p8 D8 s8 sn8 => ?_⟩
          have rc8 := put_rct (k := kd) (v := x + (0 - m)) rc hr1
          obtain ⟨r8, x8, hr8, hx8⟩ := rc8.at h2n hkk
          refine ⟨.int oth, rfl, .int kd, rfl, .int m, rfl, d, a, b, _, p8, _, oth, kd, m, r8, x8, rfl, D8, sn8, l9 rc8, hr8, hx8, fun G9 p9 D9 s9 sn9 => ?_⟩
          have s79 : Same G7 G9 := s8.trans s9
          refine ⟨some (.int (0 + i)), some (.int one), some (.int oth), some (.int kd), some (.int fi), some (.int m), p9, _, rfl, D9.mono (by omega), kG4.trans (k47.trans (Kp.of s79)), hG7.same s79, sn9, okG.of_dl ((put_dl hr1 hx1).trans (put_dl hr8 hx8)) ?_ ?_, fun k' => ?_⟩
          · intro i' k' r' x' hr' hx' x0
            show 0 ≤ x' + ((if i' = one ∧ k' = kd then 0 - m else 0) + (if i' = oth ∧ k' = kd then m else 0))
            have f1 : i' = one ∧ k' = kd → x' = x := by
              rintro ⟨rfl, rfl⟩
              rw [hr1] at hr'
              have e := Option.some.inj hr'
              subst e
              rw [hx1] at hx'
              exact (Option.some.inj hx').symm
            split <;> split <;> omega
          · intro i' r' z' hr' hz' h0
            show r'.sum + ((if i' = one then 0 - m else 0) + (if i' = oth then m else 0)) ≤ z'
            have f1 : i' = oth → z' - r'.sum = sizes[oth] - t.sum := by
              rintro rfl
              rw [ht] at hr'
              have e := Option.some.inj hr'
              subst e
              rw [List.getElem?_eq_getElem h2n] at hz'
              have e := Option.some.inj hz'
              omega
            split <;> split <;> omega
          · rw [put_col hr8 hx8, put_col hr1 hx1, cG]
            split <;> omega
        · refine ⟨.int one, rfl, .int oth, rfl, rfl, _, rfl, ite2 (fun c3 => ?_) (fun c3 => (c3 c1).elim)⟩
          refine ⟨.int kd, rfl, .int fi, rfl, rfl, _, rfl, ite2 (fun c4 => ?_) (fun c4 => skip G5 D5 k5)⟩
          have nk : kd ≠ fi := fun e => by subst e; simp at c4
          obtain ⟨vs5, hp5, rv5⟩ := (sG4.keep k5).ex
          have hG5 := hG4.keep k5 oh oz
          obtain ⟨v0, hv0, q0, rfl, fq0, oq0⟩ := rv5.at hr1
          obtain ⟨t, y, ht, hy⟩ := rc.at h2n hff
          obtain ⟨v2, hv2, q2, rfl, fq2, oq2⟩ := rv5.at ht
          have okt := okG.row oth _ t (List.getElem?_eq_getElem h2n) ht
          have yb := okt.2.1 y (List.mem_of_getElem? hy)
          have mn := min_le (x := x) (y := y)
          refine ⟨.ref d, rfl, .ref p1, rfl, .int one, rfl, p1, vs5, one, .ref q0, rfl, rfl, SqT.of hp5, atI_nat hv0, .int kd, rfl, q0, _, kd, .int x, rfl, rfl, SqT.of fq0, atI_nat (by rw [List.getElem?_map, hx1]; rfl),
            .ref p1, rfl, .int oth, rfl, p1, vs5, oth, .ref q2, rfl, rfl, SqT.of hp5, atI_nat hv2, .int fi, rfl, q2, _, fi, .int y, rfl, rfl, SqT.of fq2, atI_nat (by rw [List.getElem?_map, hy]; rfl),
            x, y, rfl, d, a, b, _, _, rfl, D5, by split <;> omega, by omega, by omega, fun G7 m D7 k7 m0 m1 => ?_⟩
          have k47 := k5.trans k7
          have hG7 := hG4.keep k47 oh oz
          have sG7 := sG4.keep k47
          refine ⟨.ref p1, rfl, .int one, rfl, .int kd, rfl, .int m, rfl, 0, m, rfl, rfl, d, a, b, _, p1, ts, one, kd, 0 - m, r, x, rfl, D7, sG7, by omega, hr1, hx1, fun G8 p8 D8 s8 sn8 => ?_⟩
          have rc8 := put_rct (k := kd) (v := x + (0 - m)) rc hr1
          obtain ⟨r8, x8, hr8, hx8⟩ := rc8.at h2n hkk
          refine ⟨.int oth, rfl, .int kd, rfl, .int m, rfl, d, a, b, _, p8, _, oth, kd, m, r8, x8, rfl, D8, sn8, l9 rc8, hr8, hx8, fun G9 p9 D9 s9 sn9 => ?_⟩
          have rc9 := put_rct (k := kd) (v := x8 + m) rc8 hr8
          obtain ⟨r9, x9, hr9, hx9⟩ := rc9.at h2n hff
          refine ⟨.ref p9, rfl, .int oth, rfl, .int fi, rfl, .int m, rfl, 0, m, rfl, rfl, d, a, b, _, p9, _, oth, fi, 0 - m, r9, x9, rfl, D9, sn9, l9 rc9, hr9, hx9, fun Ga pa Da sa sna => ?_⟩
          have rca := put_rct (k := fi) (v := x9 + (0 - m)) rc9 hr9
          obtain ⟨ra, xa, hra, hxa⟩ := rca.at h1n hff
          refine ⟨.int one, rfl, .int fi, rfl, .int m, rfl, d, a, b, _, pa, _, one, fi, m, ra, xa, rfl, Da, sna, l9 rca, hra, hxa, fun Gb pb Db sb snb => ?_⟩
          have s79 : Same G7 Gb := s8.trans (s9.trans (sa.trans sb))
          refine ⟨some (.int (0 + i)), some (.int one), some (.int oth), some (.int kd), some (.int fi), some (.int m), pb, _, rfl, Db.mono (by omega), kG4.trans (k47.trans (Kp.of s79)), hG7.same s79, snb, okG.of_dl (((put_dl hr1 hx1).trans (put_dl hr8 hx8)).trans ((put_dl hr9 hx9).trans (put_dl hra hxa))) ?_ ?_, fun k' => ?_⟩
          · intro i' k' r' x' hr' hx' x0
            show 0 ≤ x' + (((if i' = one ∧ k' = kd then 0 - m else 0) + (if i' = oth ∧ k' = kd then m else 0)) + ((if i' = oth ∧ k' = fi then 0 - m else 0) + (if i' = one ∧ k' = fi then m else 0)))
            have f1 : i' = one ∧ k' = kd → x' = x := by
              rintro ⟨rfl, rfl⟩
              rw [hr1] at hr'
              have e := Option.some.inj hr'
              subst e
              rw [hx1] at hx'
              exact (Option.some.inj hx').symm
            have f2 : i' = oth ∧ k' = fi → x' = y := by
              rintro ⟨rfl, rfl⟩
              rw [ht] at hr'
              have e := Option.some.inj hr'
              subst e
              rw [hy] at hx'
              exact (Option.some.inj hx').symm
            split <;> split <;> split <;> split <;> omega
          · intro i' r' z' hr' hz' h0
            show r'.sum + (((if i' = one then 0 - m else 0) + (if i' = oth then m else 0)) + ((if i' = oth then 0 - m else 0) + (if i' = one then m else 0))) ≤ z'
            split <;> split <;> omega
          · rw [put_col hra hxa, put_col hr9 hx9, put_col hr8 hx8, put_col hr1 hx1, cG]
            split <;> split <;> omega
      · refine ⟨.int one, rfl, .int oth, rfl, rfl, _, rfl, ite2 (fun c3 => (c1 c3).elim) (fun c3 => iteF (skip G4 (D4.mono (by omega)) Kp.refl))⟩
    · obtain ⟨y3, y4, y5, y6, y7, y8, p1, ts, rfl, DG, kG, hG, sG, okG, cG⟩ := hP
      exact ⟨_, rfl, q _ p1 ts (DG.mono (by omega)) kG sG okG cG⟩

end

end Fr

set_option Elab.async false
set_option linter.all false
set_option maxRecDepth 100000
namespace Fr
open PySem PySem.Spec PyProof.Rows L2

section
variable {P : Program} {w : World} {K : PySem.W.Frag} {mg : Str → Option Value} {base : Heap}
abbrev sCase : Stmt := topS 15
abbrev nCase : List Str := ["_law_deck_here", "_law_house_here", "_law_stand_here"]
theorem cCase : FnScope nCase ["_law_deck_here"] (defScope sCase) :=
  ⟨rfl, rfl, rfl, by decide +kernel, rfl, by decide +kernel, by decide +kernel⟩

def spCase : Sp := fun vs H Q _ => ∃ (d a : Addr) (b : Sd) (c : Nat), vs = [.ref d] ∧ Deck d a b H c ∧ c + 600 < 2 ^ 30 ∧
  ∀ (H' : Hp) (t h z p q : Addr) (sizes : List Int) (kinds : Int) (rs ts : List (List Int)), Deck d a b H' (c + 600) → Kp d a b H H' → H' t = some (.tup [.ref h, .ref p, .ref q]) → ¬ Own d a b t → Hs H' h z sizes kinds → ¬ Own d a b h → ¬ Own d a b z →
    1 ≤ sizes.length → sizes.length ≤ 8 → (∀ s ∈ sizes, 1 ≤ s ∧ s ≤ 10 ^ 12) → 1 ≤ kinds → kinds ≤ 6 → Snd d a b H' p rs → Snd d a b H' q ts → OkS sizes kinds rs → OkS sizes kinds ts → (∀ k, colS ts k = colS rs k) → Q (.ref t) H'
theorem ok_case {f : Addr} {fd : FuncData} {k j : Nat} (F : Fun K "_law_case" "_law_case" sCase f fd)
    (Cn : Callee P w K mg base j "_law_next" ["_law_deck_here", "_law_many"] spNext) (Ch : Callee P w K mg base j "_law_house" ["_law_deck_here", "_law_rooms", "_law_kinds"] spHouse)
    (Cs : Callee P w K mg base j "_law_stand" ["_law_deck_here", "_law_house_here"] spStand) (Cw : Callee P w K mg base j "_law_wish" ["_law_deck_here", "_law_house_here", "_law_stand_here"] spWish) (hj : j ≤ k) :
    FnOk P w K mg base CX0 (k + 1) f fd ["_law_deck_here"] spCase := by
  refine F.ok cCase (fun vs H Q E h => ?_) (fun cdv A outer s H vs Q E hr h => ?_)
  · obtain ⟨d, a, b, c, rfl, _⟩ := h
    rfl
  · obtain ⟨d, a, b, c, rfl, D, hc, q⟩ := h
    have hr := hr.mono hj
    refine ⟨_, (pss_cons (ps_set (i := 1) cCase.nd rfl (.inl rfl) (pe_u Ch hr (by rfl) (pa_cons (pv 0) (pa_cons (pe_op op_add pe_int (pe_u Cn hr (by rfl) (pa_cons (pv 0) (pa_cons pe_int pa_nil)))) (pa_cons (pe_op op_add pe_int (pe_u Cn hr (by rfl) (pa_cons (pv 0) (pa_cons pe_int pa_nil)))) pa_nil)))))
        (pss_cons (ps_set (i := 2) cCase.nd rfl (.inl rfl) (pe_u Cs hr (by rfl) (pa_cons (pv 0) (pa_cons (pv 1) pa_nil))))
        (pss_one (ps_ret (pe_tup (pa_cons (pv 1) (pa_cons (pv 2) (pa_cons (pe_u Cw hr (by rfl) (pa_cons (pv 0) (pa_cons (pv 1) (pa_cons (pv 2) pa_nil)))) pa_nil)))))))), ?_⟩
    refine ⟨.ref d, rfl, .ref d, rfl, d, a, b, 8, _, rfl, D, by decide, by decide, by omega, fun H2 r2 D2 kp2 r20 r21 => ?_⟩
    refine ⟨1, r2, rfl, rfl, .ref d, rfl, d, a, b, 6, _, rfl, D2, by decide, by decide, by omega, fun H3 r3 D3 kp3 r30 r31 => ?_⟩
    refine ⟨1, r3, rfl, rfl, d, a, b, 1 + r2, 1 + r3, _, rfl, D3, by omega, by omega, by omega, fun H4 h z sizes D4 kp4 hs oh oz ls hsz => ?_⟩
    refine ⟨.ref d, rfl, .ref h, rfl, d, a, b, h, z, sizes, 1 + r3, _, rfl, D4, hs, oh, oz, by omega, hsz, by omega, by omega, by omega, fun H5 p rs D5 kp5 sn ok => ?_⟩
    have hs5 := hs.keep kp5 oh oz
    refine ⟨.ref h, rfl, .ref p, rfl, .ref d, rfl, .ref h, rfl, .ref p, rfl, d, a, b, h, z, p, sizes, 1 + r3, rs, _, rfl, D5, hs5, oh, oz, by omega, by omega, hsz, by omega, by omega, sn, ok, by omega, fun H6 p6 ts D6 kp6 sn6 ok6 c6 => ?_⟩
    have hs6 := hs5.keep kp6 oh oz
    refine ⟨(by show 3 ≤ sizeLine; decide), fun t nt => ?_⟩
    have k7 : Kp d a b H6 (upd H6 t (.tup [.ref h, .ref p, .ref p6])) := Kp.new nt
    exact q _ t h z p p6 sizes (1 + r3) rs ts ((D6.new nt).mono (by omega)) (kp2.trans (kp3.trans (kp4.trans (kp5.trans (kp6.trans k7))))) upd_same (D6.fresh nt) (hs6.keep k7 oh oz) oh oz (by omega) (by omega) hsz (by omega) (by omega) ((sn.keep kp6).keep k7) (sn6.keep k7) ok ok6 c6
end

end Fr

set_option Elab.async false
set_option linter.all false
set_option maxRecDepth 100000
namespace Fr
open PySem PySem.Spec PyProof.Rows L2

theorem tmR_nil : tmR [] = 0 := rfl
theorem tmR_cons (r : List Int) (rs : List (List Int)) : tmR (r :: rs) = (r.map posI).sum + tmR rs := by
  unfold tmR
  rw [List.map_cons, List.flatten_cons, List.sum_append]
theorem posI_sub (x y : Int) : posI (x - y) - posI (y - x) = x - y := by
  unfold posI
  split <;> split <;> omega
theorem row_anti : ∀ {r t : List Int}, r.length = t.length → ((List.zipWith (· - ·) r t).map posI).sum - ((List.zipWith (· - ·) t r).map posI).sum = r.sum - t.sum
  | [], [], _ => rfl
  | x :: r, y :: t, h => by
    have ih := row_anti (r := r) (t := t) (by simpa using h)
    have e := posI_sub x y
    simp only [List.zipWith_cons_cons, List.map_cons, List.sum_cons] at ih ⊢
    omega
def totS (rs : List (List Int)) : Int := (rs.map List.sum).sum
theorem tm_anti : ∀ {rs ts : List (List Int)} {k : Nat}, rs.length = ts.length → (∀ r ∈ rs, r.length = k) → (∀ t ∈ ts, t.length = k) → tmR (amR rs ts) - tmR (amR ts rs) = totS rs - totS ts
  | [], [], _, _, _, _ => rfl
  | r :: rs, t :: ts, k, h, h1, h2 => by
    have ih := tm_anti (rs := rs) (ts := ts) (k := k) (by simpa using h) (fun x hx => h1 x (List.mem_cons_of_mem _ hx)) (fun x hx => h2 x (List.mem_cons_of_mem _ hx))
    have e := row_anti (r := r) (t := t) ((h1 r List.mem_cons_self).trans (h2 t List.mem_cons_self).symm)
    simp only [amR, totS, List.zipWith_cons_cons, List.map_cons, List.sum_cons, tmR_cons] at ih ⊢
    omega
theorem row_cols : ∀ (r : List Int), r.sum = ((List.range r.length).map fun k => r.getD k 0).sum
  | [] => rfl
  | x :: r => by
    have ih := row_cols r
    rw [List.length_cons, List.range_succ_eq_map, List.map_cons, List.sum_cons, List.sum_cons, List.map_map, ih]
    rfl
theorem sum_add : ∀ (l : List Nat) (f g : Nat → Int), (l.map fun k => f k + g k).sum = (l.map f).sum + (l.map g).sum
  | [], _, _ => rfl
  | x :: l, f, g => by
    have ih := sum_add l f g
    simp only [List.map_cons, List.sum_cons] at ih ⊢
    omega
theorem tot_cols : ∀ {rs : List (List Int)} {k : Nat}, (∀ r ∈ rs, r.length = k) → totS rs = ((List.range k).map fun j => colS rs j).sum
  | [], k, _ => by
    have : ∀ l : List Nat, (l.map fun _ => (0 : Int)).sum = 0 := fun l => by
      induction l with
      | nil => rfl
      | cons x l ih => rw [List.map_cons, List.sum_cons, ih]; rfl
    exact (this _).symm
  | r :: rs, k, h => by
    have ih := tot_cols (rs := rs) (k := k) fun x hx => h x (List.mem_cons_of_mem _ hx)
    have e := row_cols r
    rw [h r List.mem_cons_self] at e
    have : (fun j => colS (r :: rs) j) = fun j => r.getD j 0 + colS rs j := funext fun j => by simp only [colS, List.map_cons, List.sum_cons]
    rw [this, sum_add, ← ih, ← e]
    simp only [totS, List.map_cons, List.sum_cons]
theorem tm_swap {rs ts : List (List Int)} {n k : Nat} (h1 : Rct n k rs) (h2 : Rct n k ts) (hc : ∀ j, colS ts j = colS rs j) : tmR (amR rs ts) = tmR (amR ts rs) := by
  have e := tm_anti (h1.len.trans h2.len.symm) h1.row h2.row
  rw [tot_cols h1.row, tot_cols h2.row] at e
  have : (fun j => colS ts j) = fun j => colS rs j := funext hc
  rw [this] at e
  omega
theorem tm_self : ∀ (rs : List (List Int)), tmR (amR rs rs) = 0
  | [] => rfl
  | r :: rs => by
    have ih := tm_self rs
    have e : ∀ r : List Int, ((List.zipWith (· - ·) r r).map posI).sum = 0 := fun r => by
      induction r with
      | nil => rfl
      | cons x r ih =>
        simp only [List.zipWith_cons_cons, List.map_cons, List.sum_cons, ih, Int.sub_self]
        rfl
    have e2 : amR (r :: rs) (r :: rs) = List.zipWith (· - ·) r r :: amR rs rs := rfl
    rw [e2, tmR_cons, e, ih]
    rfl
theorem col_am : ∀ {rs ts : List (List Int)} {n k j : Nat}, Rct n k rs → Rct n k ts → j < k → colS (amR rs ts) j = colS rs j - colS ts j
  | [], [], _, _, _, _, _, _ => rfl
  | [], t :: ts, n, k, j, h1, h2, _ => by
    have := h1.len.trans h2.len.symm
    cases this
  | r :: rs, [], n, k, j, h1, h2, _ => by
    have := h1.len.trans h2.len.symm
    cases this
  | r :: rs, t :: ts, n, k, j, h1, h2, hj => by
    have l1 := h1.len
    have l2 := h2.len
    rw [List.length_cons] at l1 l2
    have ih := col_am (rs := rs) (ts := ts) (n := n - 1) (k := k) (j := j) ⟨by omega, fun x hx => h1.row x (List.mem_cons_of_mem _ hx)⟩ ⟨by omega, fun x hx => h2.row x (List.mem_cons_of_mem _ hx)⟩ hj
    have a1 := List.getElem?_eq_getElem (show j < r.length by rw [h1.row r List.mem_cons_self]; exact hj)
    have a2 := List.getElem?_eq_getElem (show j < t.length by rw [h2.row t List.mem_cons_self]; exact hj)
    have e : (List.zipWith (· - ·) r t).getD j 0 = r.getD j 0 - t.getD j 0 := by
      rw [List.getD_eq_getElem?_getD, List.getD_eq_getElem?_getD, List.getD_eq_getElem?_getD, List.getElem?_zipWith, a1, a2]
      rfl
    have e2 : amR (r :: rs) (t :: ts) = List.zipWith (· - ·) r t :: amR rs ts := rfl
    simp only [e2, colS, List.map_cons, List.sum_cons, e] at ih ⊢
    omega
theorem Rct.shp {n k : Nat} {rs ts : List (List Int)} (h1 : Rct n k rs) (h2 : Rct n k ts) (hn : n ≤ 100) (hk : k ≤ 100) : Shp rs ts :=
  ⟨h1.len.trans h2.len.symm, by rw [h1.len]; exact hn, fun i r t hr ht => ⟨(h1.row r (List.mem_of_getElem? hr)).trans (h2.row t (List.mem_of_getElem? ht)).symm, by rw [h1.row r (List.mem_of_getElem? hr)]; exact hk⟩⟩
theorem Rct.am {n k : Nat} {rs ts : List (List Int)} (h1 : Rct n k rs) (h2 : Rct n k ts) : Rct n k (amR rs ts) := by
  refine ⟨?_, fun r hr => ?_⟩
  · unfold amR
    rw [List.length_zipWith, h1.len, h2.len]
    omega
  · obtain ⟨i, hi⟩ := List.getElem?_of_mem hr
    unfold amR at hi
    rw [List.getElem?_zipWith] at hi
    cases e1 : rs[i]? with
    | none => rw [e1] at hi; cases hi
    | some r1 =>
    cases e2 : ts[i]? with
    | none => rw [e1, e2] at hi; cases hi
    | some t1 =>
    rw [e1, e2] at hi
    have e := Option.some.inj hi
    rw [← e, List.length_zipWith, h1.row r1 (List.mem_of_getElem? e1), h2.row t1 (List.mem_of_getElem? e2)]
    omega

end Fr

set_option Elab.async false
set_option linter.all false
set_option maxRecDepth 100000
namespace Fr
open PySem PySem.Spec PyProof.Rows L2

section
variable {P : Program} {w : World} {K : PySem.W.Frag} {mg : Str → Option Value} {base : Heap}
abbrev sLaw : Stmt := topS 18
abbrev nLaw : List Str := ["_law_script", "_law_deck_here", "_law_turn", "_law_house_here", "_law_stand_here", "_law_wish_here", "_law_one_here", "_law_other", "_law_kept", "_law_due", "_law_row_here", "_law_kind"]
theorem cLaw : FnScope nLaw ["_law_script"] (defScope sLaw) :=
  ⟨rfl, rfl, rfl, by decide +kernel, rfl, by decide +kernel, by decide +kernel⟩

theorem smd_am {n k : Nat} {rs : List (List Int)} {x : Int} (h : Rct n k rs) (hn : n ≤ 100) (hk : k ≤ 100) : smd (.list [.tuple (rs.map fun r => .tuple (r.map .int)), .int x]) = true := by
  have e1 : smdAll (rs.map fun r => .tuple (r.map .int)) = true := by
    rw [smdAll_iff]
    intro y hy
    obtain ⟨r, hr, rfl⟩ := List.mem_map.mp hy
    have lr := h.row r hr
    have e2 : smdAll (r.map .int) = true := by
      rw [smdAll_iff]
      intro y hy
      obtain ⟨z, _, rfl⟩ := List.mem_map.mp hy
      rfl
    simp only [smd, e2, List.length_map, Bool.and_true]
    exact decide_eq_true (by omega)
  have ln := h.len
  simp only [smd, smdAll, e1, List.length_map, Bool.and_true, List.length_cons, List.length_nil]
  simp
  omega
theorem depth_am {rs : List (List Int)} {x : Int} : (PyData.list [.tuple (rs.map fun r => .tuple (r.map .int)), .int x]).depth ≤ 3 := by
  have h := Sml.depth (rs := rs)
  simp only [PyData.depth, PyData.depthAll] at h ⊢
  omega
def spLaw (K : PySem.W.Frag) : Sp := fun vs H Q _ => ∃ (e : Addr) (ns : List Int), vs = [.ref e] ∧ SqL K H e (ns.map V.int) ∧ ns.length ≤ 63 ∧ ∀ H', Q (.bl true) H'
theorem ok_law {f : Addr} {fd : FuncData} {k : Nat} (F : Fun K "law" "law" sLaw f fd) (m_range : mg "range" = none) (m_tuple : mg "tuple" = none) (m_repr : mg "repr" = none) (m_sum : mg "sum" = none)
    (Cdk : Callee P w K mg base k "_law_deck" ["_law_script"] (spDeck K)) (Cc : Callee P w K mg base k "_law_case" ["_law_deck_here"] spCase)
    (Ca : Callee P w K mg base k "amiss" ["stand", "wish"] spAmiss) (Ct : Callee P w K mg base k "too_many" ["stand", "wish"] spTooMany)
    (Cla : Callee P w K mg base k "_law_amiss" ["_law_stand_here", "_law_wish_here"] spLAmiss) (Clt : Callee P w K mg base k "_law_too_many" ["_law_stand_here", "_law_wish_here"] spTooMany)
    (Cs : Callee P w K mg base k "_law_same" ["_law_found", "_law_due"] (spSame 3)) :
    FnG P w K mg base (k + 1) f fd ["_law_script"] (spLaw K) := by
  refine okG F cLaw (fun vs H Q E h => ?_) (fun cdv A outer s H vs Q E gd hr h => ?_)
  · obtain ⟨e, ns, rfl, _⟩ := h
    rfl
  · obtain ⟨e, ns, rfl, hS, hl, q⟩ := h
    have hu := hr.units
    refine ⟨_, (pss_cons (ps_set (i := 1) cLaw.nd rfl (.inl rfl) (pe_u Cdk hr (by rfl) (pa_cons (pv 0) pa_nil)))
        (pss_cons (ps_for PassesOwn.never rfl (pi_range1 (by rfl) m_range (pa_cons pe_int pa_nil)) (pg_name (i := 2) cLaw.nd rfl (.inl rfl)) (pss_cons (ps_asg (pe_u Cc hr (by rfl) (pa_cons (pv 1) pa_nil)) (pg_tup rfl (pgs_cons (pg_name (i := 3) cLaw.nd rfl (.inl rfl)) (pgs_cons (pg_name (i := 4) cLaw.nd rfl (.inl rfl)) (pgs_cons (pg_name (i := 5) cLaw.nd rfl (.inl rfl)) pgs_nil)))))
        (pss_cons (ps_for PassesOwn.never rfl (pi_list (pe_lst (pa_cons (pe_tup (pa_cons (pv 4) (pa_cons (pv 5) pa_nil))) (pa_cons (pe_tup (pa_cons (pv 5) (pa_cons (pv 4) pa_nil))) (pa_cons (pe_tup (pa_cons (pv 4) (pa_cons (pv 4) pa_nil))) pa_nil))))) (pg_tup rfl (pgs_cons (pg_name (i := 6) cLaw.nd rfl (.inl rfl)) (pgs_cons (pg_name (i := 7) cLaw.nd rfl (.inl rfl)) pgs_nil))) (pss_cons (ps_set (i := 8) cLaw.nd rfl (.inl rfl) (pe_callB (call_showS gd hu) (by rfl) m_repr PyProof.Rows.boot_repr (pa_cons (pe_lstS (pa_cons (pv 6) (pa_cons (pv 7) pa_nil))) pa_nil)))
        (pss_cons (ps_set (i := 9) cLaw.nd rfl (.inl rfl) (pe_callTy call_tuple_of (by rfl) m_tuple PyProof.Rows.boot_tuple (pa_cons (pe_lc (own := [("_law_row_here", 10)]) (g := gName 10) (tt := tYes)  rfl cLaw.nd (pi_list (pe_u Cla hr (by rfl) (pa_cons (pv 6) (pa_cons (pv 7) pa_nil)))) (blkOk_by (N := nLaw) (sc := defScope sLaw) (by decide +kernel)) (fun _ _ _ _ _ => (pg_name (i := 10) cLaw.nd rfl (.inl rfl))) (fun _ _ _ _ _ => pts_nil) (fun _ _ _ _ _ => (pe_callTy (r := rTupOf K) call_tupK (by rfl) m_tuple (by decide +kernel) (pa_cons (pv 10) pa_nil)))) pa_nil)))
        (pss_cons (ps_if (pt_not (pt_val (pe_u Cs hr (by rfl) (pa_cons (pe_lst (pa_cons (pe_u Ca hr (by rfl) (pa_cons (pv 6) (pa_cons (pv 7) pa_nil))) (pa_cons (pe_u Ct hr (by rfl) (pa_cons (pv 6) (pa_cons (pv 7) pa_nil))) pa_nil))) (pa_cons (pe_lst (pa_cons (pv 9) (pa_cons (pe_u Clt hr (by rfl) (pa_cons (pv 6) (pa_cons (pv 7) pa_nil))) pa_nil))) pa_nil))))) (pss_one (ps_ret pe_bl)) pss_nil)
        (pss_one (ps_if (pt_cmpR op_ne (pe_callB (call_showS gd hu) (by rfl) m_repr PyProof.Rows.boot_repr (pa_cons (pe_lstS (pa_cons (pv 6) (pa_cons (pv 7) pa_nil))) pa_nil)) (pv 8) (nomark _)) (pss_one (ps_ret pe_bl)) pss_nil))))))
        (pss_cons (ps_if (PW.pt (pw_or (pt_cmpR op_ne (pe_u Ct hr (by rfl) (pa_cons (pv 4) (pa_cons (pv 5) pa_nil))) (pe_u Ct hr (by rfl) (pa_cons (pv 5) (pa_cons (pv 4) pa_nil))) (nomark _)) (pw_or1 (pt_cmpR op_ne (pe_u Ct hr (by rfl) (pa_cons (pv 4) (pa_cons (pv 4) pa_nil))) pe_int (nomark _))))) (pss_one (ps_ret pe_bl)) pss_nil)
        (pss_one (ps_for PassesOwn.never rfl (pi_range1 (by rfl) m_range (pa_cons (pe_ix ix_tup (pv 3) pe_int (fun _ _ => rfl)) pa_nil)) (pg_name (i := 11) cLaw.nd rfl (.inr rfl)) (pss_one (ps_if (pt_cmpR op_ne (pe_callB (cr_sum rfl) (by rfl) m_sum (by decide +kernel) (pa_cons (pe_lc (own := [("_law_row_here", 10)]) (g := gName 10) (tt := tYes)  rfl cLaw.nd (pi_tup (pe_u Ca hr (by rfl) (pa_cons (pv 4) (pa_cons (pv 5) pa_nil)))) (blkOk_by (N := nLaw) (sc := defScope sLaw) (by decide +kernel)) (fun _ _ _ _ _ => (pg_name (i := 10) cLaw.nd rfl (.inl rfl))) (fun _ _ _ _ _ => pts_nil) (fun _ _ _ _ _ => (pe_ix (r := rIx K) ix_seq (pv 10) (pv 11) (fun _ _ => rfl)))) pa_nil)) pe_int (nomark _)) (pss_one (ps_ret pe_bl)) pss_nil))))))))
        (pss_one (ps_ret pe_bl)))), ?_⟩
    refine ⟨.ref e, rfl, e, ns, rfl, hS, hl, fun H0 d a b sm0 D0 hbl => ?_⟩
    refine ⟨6, rfl, by decide, by decide, for_range (n := 6) (fun i σ H1 => ∃ y2 y3 y4 y5 y6 y7 y8 y9 y10 y11 : Option V, σ = [some (.ref e), some (.ref d), y2, y3, y4, y5, y6, y7, y8, y9, y10, y11] ∧ Deck d a b H1 (700 * i))
      ⟨none, none, none, none, none, none, none, none, none, none, rfl, D0⟩ (fun i σ H1 hi hP => ?_) (fun σ H1 hP => ?_)⟩
    · obtain ⟨y2, y3, y4, y5, y6, y7, y8, y9, y10, y11, rfl, D1⟩ := hP
      refine ⟨.ref d, rfl, d, a, b, _, rfl, D1, by omega, fun H2 t h z p q' sizes kinds rs ts D2 kp2 ft ot hs oh oz l1 l8 hsz k1 k6 sp sq okr okt hcol => ⟨t, _, rfl, SqT.of ft, rfl, .ref h, _, rfl, .ref p, _, rfl, .ref q', _, rfl, rfl, ?_⟩⟩
      have rcr := okr.rct
      have rct := okt.rct
      have smr := okr.sml (by omega) (by omega) hsz
      have smt := okt.sml (by omega) (by omega) hsz
      clear ft ot
      refine ⟨.ref p, rfl, .ref q', rfl, (by show 2 ≤ sizeLine; decide), fun t1 nt1 => ⟨.ref q', rfl, .ref p, rfl, (by show 2 ≤ sizeLine; decide), fun t2 nt2 => ⟨.ref p, rfl, .ref p, rfl, (by show 2 ≤ sizeLine; decide), fun t3 nt3 => ⟨(by show 3 ≤ sizeLine; decide), fun L nL => ?_⟩⟩⟩⟩
      have u1 := same_new (o := .tup [.ref p, .ref q']) nt1
      have u2 := same_new (o := .tup [.ref q', .ref p]) nt2
      have u3 := same_new (o := .tup [.ref p, .ref p]) nt3
      have u4 := same_new (o := .lst [.ref t1, .ref t2, .ref t3]) nL
      have f1 := u4 _ _ (u3 _ _ (u2 _ _ (upd_same (H := H2) (a := t1) (o := .tup [.ref p, .ref q']))))
      have f2 := u4 _ _ (u3 _ _ (upd_same (a := t2) (o := .tup [.ref q', .ref p])))
      have f3 := u4 _ _ (upd_same (a := t3) (o := .tup [.ref p, .ref p]))
      have fL := upd_same (H := upd (upd (upd H2 t1 (.tup [.ref p, .ref q'])) t2 (.tup [.ref q', .ref p])) t3 (.tup [.ref p, .ref p])) (a := L) (o := .lst [.ref t1, .ref t2, .ref t3])
      have sm := u1.trans (u2.trans (u3.trans u4))
      have D3 := D2.same sm
      have hs3 := hs.same sm
      have sp3 := sp.keep (Kp.of sm)
      have sq3 := sq.keep (Kp.of sm)
      clear u1 u2 u3 u4 hs sp sq D2 sm kp2 D1
      generalize upd (upd (upd (upd H2 t1 (.tup [.ref p, .ref q'])) t2 (.tup [.ref q', .ref p])) t3 (.tup [.ref p, .ref p])) L (.lst [.ref t1, .ref t2, .ref t3]) = H3 at f1 f2 f3 fL D3 hs3 sp3 sq3
      have items : ∀ v ∈ [V.ref t1, .ref t2, .ref t3], ∃ (tt p1 q1 : Addr) (rs1 ts1 : List (List Int)), v = .ref tt ∧ H3 tt = some (.tup [.ref p1, .ref q1]) ∧ Snd d a b H3 p1 rs1 ∧ Snd d a b H3 q1 ts1 ∧ Rct sizes.length kinds.toNat rs1 ∧ Rct sizes.length kinds.toNat ts1 ∧ Sml rs1 ∧ Sml ts1 := by
        intro v hv
        simp only [List.mem_cons, List.not_mem_nil, or_false] at hv
        rcases hv with rfl | rfl | rfl
        · exact ⟨t1, p, q', rs, ts, rfl, f1, sp3, sq3, rcr, rct, smr, smt⟩
        · exact ⟨t2, q', p, ts, rs, rfl, f2, sq3, sp3, rct, rcr, smt, smr⟩
        · exact ⟨t3, p, p, rs, rs, rfl, f3, sp3, sp3, rcr, rcr, smr, smr⟩
      have shw : ∀ {σ : L2.St} {G : Hp} {u p1 q1 : Addr} {rs1 ts1 : List (List Int)} {Q : VK}, Snd d a b G p1 rs1 → Snd d a b G q1 ts1 → Sml rs1 → Sml ts1 → G u = none → u ≠ sysModules →
          (∀ G2, Same G G2 → Q (.str (PyData.list [.tuple (rs1.map fun r => .tuple (r.map .int)), .tuple (ts1.map fun r => .tuple (r.map .int))]).shown) G2) → tNil σ (upd G u (.lst [.ref p1, .ref q1])) (fun xs H2 => (fun vs H1 => rShowS vs H1 Q) (.ref u :: xs) H2) := by
        intro σ G u p1 q1 rs1 ts1 Q s1 s2 m1 m2 nu nsm qq
        show rShowS [.ref u] (upd G u (.lst [.ref p1, .ref q1])) Q
        have s3 := same_new (o := .lst [.ref p1, .ref q1]) nu
        have g1 := bs_gd _ 2 m1.bs Sml.depth
        have g2 := bs_gd _ 2 m2.bs Sml.depth
        exact show2 upd_same nsm (s1.keep (Kp.of s3)).dt (s2.keep (Kp.of s3)).dt (g1.1.mono (by decide) (by decide)) (g2.1.mono (by decide) (by decide)) g1.2 (qq _ s3)
      have sml100 : sizes.length ≤ 100 ∧ kinds.toNat ≤ 100 := by omega
      refine ⟨L, rfl, ⟨_, SqL.of fL⟩, for_list (xs := [.ref t1, .ref t2, .ref t3]) (fun i2 σ G => Same H3 G ∧ ∃ y6 y7 y8 y9 y10 : Option V, σ = [some (.ref e), some (.ref d), some (.int (0 + i)), some (.ref h), some (.ref p), some (.ref q'), y6, y7, y8, y9, y10, y11])
        ⟨Same.refl _, _, _, _, _, _, rfl⟩ (fun i2 σ G _ z => SqL.of (z.1 _ _ fL)) (fun i2 v σ G hv z => ?_) (fun σ G z => ?_)⟩
      · obtain ⟨sG, y6, y7, y8, y9, y10, rfl⟩ := z
        obtain ⟨tt, p1, q1, rs1, ts1, rfl, ftt, sn1, sn2, rc1, rc2, m1, m2⟩ := items v (List.mem_of_getElem? hv)
        have sn1 := sn1.keep (Kp.of sG)
        have sn2 := sn2.keep (Kp.of sG)
        have DG := D3.same sG
        have shp := rc1.shp rc2 sml100.1 sml100.2
        have rcA := rc1.am rc2
        refine ⟨tt, _, rfl, SqT.of (sG _ _ ftt), rfl, .ref p1, _, rfl, .ref q1, _, rfl, rfl, ?_⟩
        refine ⟨.ref p1, rfl, .ref q1, rfl, (by show 2 ≤ sizeLine; decide), fun u nu mu => shw sn1 sn2 m1 m2 nu mu fun G1 s1 => ?_⟩
        have snA := sn1.keep (Kp.of s1)
        have snB := sn2.keep (Kp.of s1)
        refine ⟨.ref p1, rfl, .ref q1, rfl, d, a, b, _, p1, q1, rs1, ts1, rfl, DG.same s1, snA, snB, shp, fun G2 l ws D2 s2 fl lw => ?_⟩
        have llw := lw.length
        refine ⟨l, rfl, ⟨_, SqL.of fl⟩, fun M nM => ?_⟩
        have oM := D2.fresh nM
        refine lc_list (xs := ws) (fun m G3 => Same G2 G3 ∧ Deck d a b G3 (700 * i + 600) ∧ ∃ us, G3 M = some (.lst us) ∧ Rws d a b G3 us ((amR rs1 ts1).take m))
          ⟨same_new nM, D2.new nM, [], upd_same, .nil⟩ (fun m G3 _ z => SqL.of (z.1 _ _ fl)) (fun m y G3 hy hP => ?_) (fun G3 hP => ?_)
        · obtain ⟨sm3, D3', us, fM, ru⟩ := hP
          have hm : m < ws.length := (List.getElem?_eq_some_iff.mp hy).1
          have hrow := List.getElem?_eq_getElem (show m < (amR rs1 ts1).length by omega)
          obtain ⟨q2, hq2, fq2, oq2⟩ := lw.at hrow
          rw [hy] at hq2
          have e1 := Option.some.inj hq2
          subst e1
          have ll := ru.length
          rw [List.length_take] at ll
          have lA := rcA.len
          refine ⟨rfl, .ref q2, rfl, q2, _, rfl, .inl ⟨SqL.of (sm3 _ _ fq2), fun n nn => ?_⟩⟩
          have s4 := same_new (o := .tup ((amR rs1 ts1)[m].map V.int)) nn
          have fM4 := s4 _ _ fM
          refine ⟨us, fM4, small1000 (by omega), ?_, (D3'.new nn).put (off oM), us ++ [.ref n], upd_same, ?_⟩
          · intro y o hy'
            rw [upd_ne (ne_of_none hy' nM)]
            exact s4 _ _ (sm3 _ _ hy')
          · rw [List.take_add_one, hrow]
            exact ((ru.keep (Kp.of s4)).append (.cons ⟨n, rfl, upd_same, D3'.fresh nn⟩ .nil)).put fM4
        · obtain ⟨sm3, D3', us, fM, ru⟩ := hP
          rw [llw, List.take_length] at ru
          refine ⟨M, us, rfl, .inl ⟨SqL.of fM, fun due nd => ?_⟩⟩
          have D4 := D3'.new (o := .tup us) nd
          have snD : Snd d a b (upd G3 due (.tup us)) due (amR rs1 ts1) := ⟨⟨us, upd_same, ru.keep (Kp.new nd)⟩, D3'.fresh nd⟩
          have s14 : Same G1 (upd G3 due (.tup us)) := s2.trans (sm3.trans (same_new nd))
          generalize upd G3 due (.tup us) = G4 at D4 snD s14
          have sA4 := snA.keep (Kp.of s14)
          have sB4 := snB.keep (Kp.of s14)
          refine ⟨.ref p1, rfl, .ref q1, rfl, d, a, b, _, p1, q1, rs1, ts1, rfl, D4, sA4, sB4, shp, fun G5 pa D5 s5 snE => ?_⟩
          refine ⟨.ref p1, rfl, .ref q1, rfl, d, a, b, _, p1, q1, rs1, ts1, rfl, D5, sA4.keep (Kp.of s5), sB4.keep (Kp.of s5), shp, fun G6 s6 => ?_⟩
          refine ⟨(by show 2 ≤ sizeLine; decide), fun L1 nL1 => ?_⟩
          have D6 := D5.same s6
          have oL1 := D6.fresh nL1
          have s7 := same_new (o := .lst [.ref pa, .int (tmR (amR rs1 ts1))]) nL1
          have fL1 : upd G6 L1 (.lst [.ref pa, .int (tmR (amR rs1 ts1))]) L1 = some (.lst [.ref pa, .int (tmR (amR rs1 ts1))]) := upd_same
          have D7 := D6.same s7
          have s57 : Same G5 (upd G6 L1 (.lst [.ref pa, .int (tmR (amR rs1 ts1))])) := s6.trans s7
          generalize upd G6 L1 (.lst [.ref pa, .int (tmR (amR rs1 ts1))]) = G7 at fL1 D7 s57
          have s47 := s5.trans s57
          refine ⟨.ref due, rfl, .ref p1, rfl, .ref q1, rfl, d, a, b, _, p1, q1, rs1, ts1, rfl, D7, sA4.keep (Kp.of s47), sB4.keep (Kp.of s47), shp, fun G8 s8 => ?_⟩
          refine ⟨(by show 2 ≤ sizeLine; decide), fun L2 nL2 => ?_⟩
          have D8 := D7.same s8
          have oL2 := D8.fresh nL2
          have s9 := same_new (o := .lst [.ref due, .int (tmR (amR rs1 ts1))]) nL2
          have fL2 : upd G8 L2 (.lst [.ref due, .int (tmR (amR rs1 ts1))]) L2 = some (.lst [.ref due, .int (tmR (amR rs1 ts1))]) := upd_same
          have s79 := s8.trans s9
          generalize upd G8 L2 (.lst [.ref due, .int (tmR (amR rs1 ts1))]) = G9 at fL2 s79
          have dt1 : Dt d a b G9 (.ref L1) (.list [.tuple ((amR rs1 ts1).map fun r => .tuple (r.map .int)), .int (tmR (amR rs1 ts1))]) :=
            .lst (s79 _ _ fL1) oL1 (.cons (snE.keep (Kp.of (s57.trans s79))).dt (.cons (.int _) .nil))
          have dt2 : Dt d a b G9 (.ref L2) (.list [.tuple ((amR rs1 ts1).map fun r => .tuple (r.map .int)), .int (tmR (amR rs1 ts1))]) :=
            .lst fL2 oL2 (.cons (snD.keep (Kp.of (s47.trans s79))).dt (.cons (.int _) .nil))
          refine ⟨d, a, b, .ref L1, .ref L2, _, rfl, dt1, dt2, smd_am rcA (by omega) (by omega), depth_am, fun Ga sa => ⟨true, rfl, iteF ?_⟩⟩
          have s1a := s14.trans (s47.trans (s79.trans sa))
          refine ⟨.ref p1, rfl, .ref q1, rfl, (by show 2 ≤ sizeLine; decide), fun u nu mu => shw (snA.keep (Kp.of s1a)) (snB.keep (Kp.of s1a)) m1 m2 nu mu fun Gb sb => ?_⟩
          refine ⟨_, rfl, rfl, _, rfl, ?_⟩
          rw [decide_eq_true rfl]
          exact iteF ⟨sG.trans (s1.trans (s1a.trans sb)), _, _, _, _, _, rfl⟩
      · obtain ⟨sG, y6, y7, y8, y9, y10, rfl⟩ := z
        have DG := D3.same sG
        have hsG := hs3.same sG
        have spG := sp3.keep (Kp.of sG)
        have sqG := sq3.keep (Kp.of sG)
        refine ⟨.ref p, rfl, .ref q', rfl, d, a, b, _, p, q', rs, ts, rfl, DG, spG, sqG, rcr.shp rct sml100.1 sml100.2, fun G1 s1 => ?_⟩
        refine ⟨.ref q', rfl, .ref p, rfl, d, a, b, _, q', p, ts, rs, rfl, DG.same s1, sqG.keep (Kp.of s1), spG.keep (Kp.of s1), rct.shp rcr sml100.1 sml100.2, fun G2 s2 => ⟨rfl, _, rfl, ?_⟩⟩
        rw [tm_swap rcr rct hcol, decide_eq_true rfl]
        have s02 := s1.trans s2
        refine iteF ⟨.ref p, rfl, .ref p, rfl, d, a, b, _, p, p, rs, rs, rfl, DG.same s02, spG.keep (Kp.of s02), spG.keep (Kp.of s02), rcr.shp rcr sml100.1 sml100.2, fun G3 s3 => ⟨rfl, _, rfl, ?_⟩⟩
        rw [tm_self, decide_eq_true rfl]
        have s03 := s02.trans s3
        have hs4 := hsG.same s03
        have D4 := DG.same s03
        have sp4 := spG.keep (Kp.of s03)
        have sq4 := sqG.keep (Kp.of s03)
        refine iteF ⟨.ref h, rfl, h, _, 1, .int kinds, rfl, rfl, SqT.of hs4.h, at1, kinds, rfl, by omega, by omega, for_range (n := kinds.toNat) (fun i3 σ G4 => Same G3 G4 ∧ ∃ y10 y11 : Option V, σ = [some (.ref e), some (.ref d), some (.int (0 + i)), some (.ref h), some (.ref p), some (.ref q'), y6, y7, y8, y9, y10, y11])
          ⟨Same.refl _, _, _, rfl⟩ (fun i3 σ G4 hi3 z => ?_) (fun σ G4 z => ?_)⟩
        · obtain ⟨s4, y10, y11, rfl⟩ := z
          have rcA := rcr.am rct
          refine ⟨.ref p, rfl, .ref q', rfl, d, a, b, _, p, q', rs, ts, rfl, D4.same s4, sp4.keep (Kp.of s4), sq4.keep (Kp.of s4), rcr.shp rct sml100.1 sml100.2, fun G5 pa D5 s5 snE => ?_⟩
          obtain ⟨us, hpa, ru⟩ := snE.ex
          have lu := ru.length
          refine ⟨pa, rfl, ⟨_, SqT.of hpa⟩, fun M nM => ?_⟩
          refine lc_tup (xs := us) (fun m G6 => Same G5 G6 ∧ G6 M = some (.lst ((((amR rs ts).take m).map fun r => r.getD i3 0).map V.int)))
            ⟨same_new nM, upd_same⟩ (fun m G6 _ z => SqT.of (z.1 _ _ hpa)) (fun m y G6 hy z => ?_) (fun G6 z => ?_)
          · obtain ⟨s6, fM⟩ := z
            obtain ⟨r2, hr2, q2, rfl, fq2, oq2⟩ := ru.get hy
            have hlr := rcA.row r2 (List.mem_of_getElem? hr2)
            have hg := List.getElem?_eq_getElem (show i3 < r2.length by omega)
            have lA := rcA.len
            have hm : m < us.length := (List.getElem?_eq_some_iff.mp hy).1
            refine ⟨rfl, .ref q2, rfl, .int (0 + i3), rfl, .inr (.inl ⟨q2, _, _, .int r2[i3], rfl, rfl, SqT.of (s6 _ _ fq2), ?_, _, fM, ?_, ?_, ?_⟩)⟩
            · rw [show (0 + (i3 : Int)) = (i3 : Int) by omega]
              exact atI_nat (by rw [List.getElem?_map, hg]; rfl)
            · rw [List.length_map, List.length_map, List.length_take]
              exact small1000 (by omega)
            · intro y o hy'
              rw [upd_ne (ne_of_none hy' nM)]
              exact s6 _ _ hy'
            · rw [upd_same, List.take_add_one, hr2]
              simp [hg]
          · obtain ⟨s6, fM⟩ := z
            rw [lu, List.take_length] at fM
            refine ⟨M, _, rfl, SqL.of fM, rfl, _, rfl, ?_⟩
            have e0 : ((amR rs ts).map fun r => r.getD i3 0).sum = 0 := by
              have e := col_am rcr rct (j := i3) (by omega)
              rw [hcol] at e
              unfold colS at e
              omega
            rw [e0, decide_eq_true rfl]
            exact iteF ⟨s4.trans (s5.trans s6), _, _, rfl⟩
        · obtain ⟨s4, y10, y11, rfl⟩ := z
          exact ⟨_, _, _, _, _, _, _, _, _, _, rfl, (D4.same s4).mono (by omega)⟩
    · obtain ⟨y2, y3, y4, y5, y6, y7, y8, y9, y10, y11, rfl, D1⟩ := hP
      exact q H1

end

end Fr

set_option Elab.async false
set_option linter.all false
set_option maxRecDepth 100000
namespace Fr
open PySem PySem.Spec PyProof.Rows L2
theorem all_mk {l : PySem.W.OpenLaw} {w : World} {K : PySem.W.Frag} {h : Heap} {mg : Str → Option Value} {fa : Addr}
    (X : K.In h) (G : h.Ns mainGlobals mg) (hfa : mg "law" = some (.ref fa))
    {f0 : Addr} {od0 an0 : Option Addr} {sl0 : Array (Option Value)} {oc0 kv0 dc0 pm0 cd0 ct0 : Value}
    (a0 : PySem.W.nsIn K mainGlobals "amiss" = some (some (.ref f0)))
    (l0 : K.lookup f0 = some ⟨oc0, od0, .func (PySem.W.fnOf "amiss" "amiss" (defArgs sAmiss) (defBody sAmiss) (defScope sAmiss) .none kv0 dc0 pm0 an0 cd0 ct0), sl0⟩)
    (c0 : PySem.W.codeIn K cd0 "amiss" = true) (k0 : PySem.W.keepIn K (.ref f0) = true)
    {f1 : Addr} {od1 an1 : Option Addr} {sl1 : Array (Option Value)} {oc1 kv1 dc1 pm1 cd1 ct1 : Value}
    (a1 : PySem.W.nsIn K mainGlobals "too_many" = some (some (.ref f1)))
    (l1 : K.lookup f1 = some ⟨oc1, od1, .func (PySem.W.fnOf "too_many" "too_many" (defArgs sTooMany) (defBody sTooMany) (defScope sTooMany) .none kv1 dc1 pm1 an1 cd1 ct1), sl1⟩)
    (c1 : PySem.W.codeIn K cd1 "too_many" = true) (k1 : PySem.W.keepIn K (.ref f1) = true)
    {f2 : Addr} {od2 an2 : Option Addr} {sl2 : Array (Option Value)} {oc2 kv2 dc2 pm2 cd2 ct2 : Value}
    (a2 : PySem.W.nsIn K mainGlobals "_law_deck" = some (some (.ref f2)))
    (l2 : K.lookup f2 = some ⟨oc2, od2, .func (PySem.W.fnOf "_law_deck" "_law_deck" (defArgs sDeck) (defBody sDeck) (defScope sDeck) .none kv2 dc2 pm2 an2 cd2 ct2), sl2⟩)
    (c2 : PySem.W.codeIn K cd2 "_law_deck" = true) (k2 : PySem.W.keepIn K (.ref f2) = true)
    {f3 : Addr} {od3 an3 : Option Addr} {sl3 : Array (Option Value)} {oc3 kv3 dc3 pm3 cd3 ct3 : Value}
    (a3 : PySem.W.nsIn K mainGlobals "_law_next" = some (some (.ref f3)))
    (l3 : K.lookup f3 = some ⟨oc3, od3, .func (PySem.W.fnOf "_law_next" "_law_next" (defArgs sNext) (defBody sNext) (defScope sNext) .none kv3 dc3 pm3 an3 cd3 ct3), sl3⟩)
    (c3 : PySem.W.codeIn K cd3 "_law_next" = true) (k3 : PySem.W.keepIn K (.ref f3) = true)
    {f4 : Addr} {od4 an4 : Option Addr} {sl4 : Array (Option Value)} {oc4 kv4 dc4 pm4 cd4 ct4 : Value}
    (a4 : PySem.W.nsIn K mainGlobals "_law_one" = some (some (.ref f4)))
    (l4 : K.lookup f4 = some ⟨oc4, od4, .func (PySem.W.fnOf "_law_one" "_law_one" (defArgs sOne) (defBody sOne) (defScope sOne) .none kv4 dc4 pm4 an4 cd4 ct4), sl4⟩)
    (c4 : PySem.W.codeIn K cd4 "_law_one" = true) (k4 : PySem.W.keepIn K (.ref f4) = true)
    {f5 : Addr} {od5 an5 : Option Addr} {sl5 : Array (Option Value)} {oc5 kv5 dc5 pm5 cd5 ct5 : Value}
    (a5 : PySem.W.nsIn K mainGlobals "_law_same" = some (some (.ref f5)))
    (l5 : K.lookup f5 = some ⟨oc5, od5, .func (PySem.W.fnOf "_law_same" "_law_same" (defArgs sSame) (defBody sSame) (defScope sSame) .none kv5 dc5 pm5 an5 cd5 ct5), sl5⟩)
    (c5 : PySem.W.codeIn K cd5 "_law_same" = true) (k5 : PySem.W.keepIn K (.ref f5) = true)
    {f6 : Addr} {od6 an6 : Option Addr} {sl6 : Array (Option Value)} {oc6 kv6 dc6 pm6 cd6 ct6 : Value}
    (a6 : PySem.W.nsIn K mainGlobals "_law_amount" = some (some (.ref f6)))
    (l6 : K.lookup f6 = some ⟨oc6, od6, .func (PySem.W.fnOf "_law_amount" "_law_amount" (defArgs sAmount) (defBody sAmount) (defScope sAmount) .none kv6 dc6 pm6 an6 cd6 ct6), sl6⟩)
    (c6 : PySem.W.codeIn K cd6 "_law_amount" = true) (k6 : PySem.W.keepIn K (.ref f6) = true)
    {f7 : Addr} {od7 an7 : Option Addr} {sl7 : Array (Option Value)} {oc7 kv7 dc7 pm7 cd7 ct7 : Value}
    (a7 : PySem.W.nsIn K mainGlobals "_law_house" = some (some (.ref f7)))
    (l7 : K.lookup f7 = some ⟨oc7, od7, .func (PySem.W.fnOf "_law_house" "_law_house" (defArgs sHouse) (defBody sHouse) (defScope sHouse) .none kv7 dc7 pm7 an7 cd7 ct7), sl7⟩)
    (c7 : PySem.W.codeIn K cd7 "_law_house" = true) (k7 : PySem.W.keepIn K (.ref f7) = true)
    {f8 : Addr} {od8 an8 : Option Addr} {sl8 : Array (Option Value)} {oc8 kv8 dc8 pm8 cd8 ct8 : Value}
    (a8 : PySem.W.nsIn K mainGlobals "_law_row" = some (some (.ref f8)))
    (l8 : K.lookup f8 = some ⟨oc8, od8, .func (PySem.W.fnOf "_law_row" "_law_row" (defArgs sRow) (defBody sRow) (defScope sRow) .none kv8 dc8 pm8 an8 cd8 ct8), sl8⟩)
    (c8 : PySem.W.codeIn K cd8 "_law_row" = true) (k8 : PySem.W.keepIn K (.ref f8) = true)
    {f9 : Addr} {od9 an9 : Option Addr} {sl9 : Array (Option Value)} {oc9 kv9 dc9 pm9 cd9 ct9 : Value}
    (a9 : PySem.W.nsIn K mainGlobals "_law_stand" = some (some (.ref f9)))
    (l9 : K.lookup f9 = some ⟨oc9, od9, .func (PySem.W.fnOf "_law_stand" "_law_stand" (defArgs sStand) (defBody sStand) (defScope sStand) .none kv9 dc9 pm9 an9 cd9 ct9), sl9⟩)
    (c9 : PySem.W.codeIn K cd9 "_law_stand" = true) (k9 : PySem.W.keepIn K (.ref f9) = true)
    {f10 : Addr} {od10 an10 : Option Addr} {sl10 : Array (Option Value)} {oc10 kv10 dc10 pm10 cd10 ct10 : Value}
    (a10 : PySem.W.nsIn K mainGlobals "_law_put" = some (some (.ref f10)))
    (l10 : K.lookup f10 = some ⟨oc10, od10, .func (PySem.W.fnOf "_law_put" "_law_put" (defArgs sPut) (defBody sPut) (defScope sPut) .none kv10 dc10 pm10 an10 cd10 ct10), sl10⟩)
    (c10 : PySem.W.codeIn K cd10 "_law_put" = true) (k10 : PySem.W.keepIn K (.ref f10) = true)
    {f11 : Addr} {od11 an11 : Option Addr} {sl11 : Array (Option Value)} {oc11 kv11 dc11 pm11 cd11 ct11 : Value}
    (a11 : PySem.W.nsIn K mainGlobals "_law_free" = some (some (.ref f11)))
    (l11 : K.lookup f11 = some ⟨oc11, od11, .func (PySem.W.fnOf "_law_free" "_law_free" (defArgs sFree) (defBody sFree) (defScope sFree) .none kv11 dc11 pm11 an11 cd11 ct11), sl11⟩)
    (c11 : PySem.W.codeIn K cd11 "_law_free" = true) (k11 : PySem.W.keepIn K (.ref f11) = true)
    {f12 : Addr} {od12 an12 : Option Addr} {sl12 : Array (Option Value)} {oc12 kv12 dc12 pm12 cd12 ct12 : Value}
    (a12 : PySem.W.nsIn K mainGlobals "_law_wish" = some (some (.ref f12)))
    (l12 : K.lookup f12 = some ⟨oc12, od12, .func (PySem.W.fnOf "_law_wish" "_law_wish" (defArgs sWish) (defBody sWish) (defScope sWish) .none kv12 dc12 pm12 an12 cd12 ct12), sl12⟩)
    (c12 : PySem.W.codeIn K cd12 "_law_wish" = true) (k12 : PySem.W.keepIn K (.ref f12) = true)
    {f13 : Addr} {od13 an13 : Option Addr} {sl13 : Array (Option Value)} {oc13 kv13 dc13 pm13 cd13 ct13 : Value}
    (a13 : PySem.W.nsIn K mainGlobals "_law_case" = some (some (.ref f13)))
    (l13 : K.lookup f13 = some ⟨oc13, od13, .func (PySem.W.fnOf "_law_case" "_law_case" (defArgs sCase) (defBody sCase) (defScope sCase) .none kv13 dc13 pm13 an13 cd13 ct13), sl13⟩)
    (c13 : PySem.W.codeIn K cd13 "_law_case" = true) (k13 : PySem.W.keepIn K (.ref f13) = true)
    {f14 : Addr} {od14 an14 : Option Addr} {sl14 : Array (Option Value)} {oc14 kv14 dc14 pm14 cd14 ct14 : Value}
    (a14 : PySem.W.nsIn K mainGlobals "_law_amiss" = some (some (.ref f14)))
    (l14 : K.lookup f14 = some ⟨oc14, od14, .func (PySem.W.fnOf "_law_amiss" "_law_amiss" (defArgs sLAmiss) (defBody sLAmiss) (defScope sLAmiss) .none kv14 dc14 pm14 an14 cd14 ct14), sl14⟩)
    (c14 : PySem.W.codeIn K cd14 "_law_amiss" = true) (k14 : PySem.W.keepIn K (.ref f14) = true)
    {f15 : Addr} {od15 an15 : Option Addr} {sl15 : Array (Option Value)} {oc15 kv15 dc15 pm15 cd15 ct15 : Value}
    (a15 : PySem.W.nsIn K mainGlobals "_law_too_many" = some (some (.ref f15)))
    (l15 : K.lookup f15 = some ⟨oc15, od15, .func (PySem.W.fnOf "_law_too_many" "_law_too_many" (defArgs sLTooMany) (defBody sLTooMany) (defScope sLTooMany) .none kv15 dc15 pm15 an15 cd15 ct15), sl15⟩)
    (c15 : PySem.W.codeIn K cd15 "_law_too_many" = true) (k15 : PySem.W.keepIn K (.ref f15) = true)
    {f16 : Addr} {od16 an16 : Option Addr} {sl16 : Array (Option Value)} {oc16 kv16 dc16 pm16 cd16 ct16 : Value}
    (a16 : PySem.W.nsIn K mainGlobals "law" = some (some (.ref f16)))
    (l16 : K.lookup f16 = some ⟨oc16, od16, .func (PySem.W.fnOf "law" "law" (defArgs sLaw) (defBody sLaw) (defScope sLaw) .none kv16 dc16 pm16 an16 cd16 ct16), sl16⟩)
    (c16 : PySem.W.codeIn K cd16 "law" = true) (k16 : PySem.W.keepIn K (.ref f16) = true)
    (z_abs : PySem.W.nsIn K mainGlobals "abs" = some none)
    (z_len : PySem.W.nsIn K mainGlobals "len" = some none)
    (z_isinstance : PySem.W.nsIn K mainGlobals "isinstance" = some none)
    (z_int : PySem.W.nsIn K mainGlobals "int" = some none)
    (z_bool : PySem.W.nsIn K mainGlobals "bool" = some none)
    (z_tuple : PySem.W.nsIn K mainGlobals "tuple" = some none)
    (z_list : PySem.W.nsIn K mainGlobals "list" = some none)
    (z_str : PySem.W.nsIn K mainGlobals "str" = some none)
    (z_range : PySem.W.nsIn K mainGlobals "range" = some none)
    (z_repr : PySem.W.nsIn K mainGlobals "repr" = some none)
    (z_sum : PySem.W.nsIn K mainGlobals "sum" = some none)
    (z_zip : PySem.W.nsIn K mainGlobals "zip" = some none)
    (z_min : PySem.W.nsIn K mainGlobals "min" = some none)
    (z_max : PySem.W.nsIn K mainGlobals "max" = some none)
    : ∃ fd : FuncData, (∀ (s : Shared) (v : Value), BindsTo s fd ⟨[v], []⟩ [("_law_script", v)]) ∧
      ∀ base : Heap, K.In base → base.Ns mainGlobals mg → FnG l.prog w K mg base 6 fa fd ["_law_script"] (spLaw K) := by
  have e := hfa.symm.trans (PySem.W.mg_of X G a16)
  cases e
  have F_Amiss := fun_mk (st := sAmiss) l0 c0 k0
  have g_Amiss := PySem.W.mg_of X G a0
  have b_Amiss := F_Amiss.binds (ps := ["stand", "wish"]) fun _ _ _ _ _ _ us hl => match us, hl with | [_, _], _ => rfl
  have F_TooMany := fun_mk (st := sTooMany) l1 c1 k1
  have g_TooMany := PySem.W.mg_of X G a1
  have b_TooMany := F_TooMany.binds (ps := ["stand", "wish"]) fun _ _ _ _ _ _ us hl => match us, hl with | [_, _], _ => rfl
  have F_Deck := fun_mk (st := sDeck) l2 c2 k2
  have g_Deck := PySem.W.mg_of X G a2
  have b_Deck := F_Deck.binds (ps := ["_law_script"]) fun _ _ _ _ _ _ us hl => match us, hl with | [_], _ => rfl
  have F_Next := fun_mk (st := sNext) l3 c3 k3
  have g_Next := PySem.W.mg_of X G a3
  have b_Next := F_Next.binds (ps := ["_law_deck_here", "_law_many"]) fun _ _ _ _ _ _ us hl => match us, hl with | [_, _], _ => rfl
  have F_One := fun_mk (st := sOne) l4 c4 k4
  have g_One := PySem.W.mg_of X G a4
  have b_One := F_One.binds (ps := ["_law_deck_here", "_law_some"]) fun _ _ _ _ _ _ us hl => match us, hl with | [_, _], _ => rfl
  have F_Same := fun_mk (st := sSame) l5 c5 k5
  have g_Same := PySem.W.mg_of X G a5
  have b_Same := F_Same.binds (ps := ["_law_found", "_law_due"]) fun _ _ _ _ _ _ us hl => match us, hl with | [_, _], _ => rfl
  have F_Amount := fun_mk (st := sAmount) l6 c6 k6
  have g_Amount := PySem.W.mg_of X G a6
  have b_Amount := F_Amount.binds (ps := ["_law_deck_here", "_law_high"]) fun _ _ _ _ _ _ us hl => match us, hl with | [_, _], _ => rfl
  have F_House := fun_mk (st := sHouse) l7 c7 k7
  have g_House := PySem.W.mg_of X G a7
  have b_House := F_House.binds (ps := ["_law_deck_here", "_law_rooms", "_law_kinds"]) fun _ _ _ _ _ _ us hl => match us, hl with | [_, _, _], _ => rfl
  have F_Row := fun_mk (st := sRow) l8 c8 k8
  have g_Row := PySem.W.mg_of X G a8
  have b_Row := F_Row.binds (ps := ["_law_deck_here", "_law_size", "_law_kinds"]) fun _ _ _ _ _ _ us hl => match us, hl with | [_, _, _], _ => rfl
  have F_Stand := fun_mk (st := sStand) l9 c9 k9
  have g_Stand := PySem.W.mg_of X G a9
  have b_Stand := F_Stand.binds (ps := ["_law_deck_here", "_law_house_here"]) fun _ _ _ _ _ _ us hl => match us, hl with | [_, _], _ => rfl
  have F_Put := fun_mk (st := sPut) l10 c10 k10
  have g_Put := PySem.W.mg_of X G a10
  have b_Put := F_Put.binds (ps := ["_law_stand_here", "_law_room", "_law_kind", "_law_many"]) fun _ _ _ _ _ _ us hl => match us, hl with | [_, _, _, _], _ => rfl
  have F_Free := fun_mk (st := sFree) l11 c11 k11
  have g_Free := PySem.W.mg_of X G a11
  have b_Free := F_Free.binds (ps := ["_law_house_here", "_law_stand_here"]) fun _ _ _ _ _ _ us hl => match us, hl with | [_, _], _ => rfl
  have F_Wish := fun_mk (st := sWish) l12 c12 k12
  have g_Wish := PySem.W.mg_of X G a12
  have b_Wish := F_Wish.binds (ps := ["_law_deck_here", "_law_house_here", "_law_stand_here"]) fun _ _ _ _ _ _ us hl => match us, hl with | [_, _, _], _ => rfl
  have F_Case := fun_mk (st := sCase) l13 c13 k13
  have g_Case := PySem.W.mg_of X G a13
  have b_Case := F_Case.binds (ps := ["_law_deck_here"]) fun _ _ _ _ _ _ us hl => match us, hl with | [_], _ => rfl
  have F_LAmiss := fun_mk (st := sLAmiss) l14 c14 k14
  have g_LAmiss := PySem.W.mg_of X G a14
  have b_LAmiss := F_LAmiss.binds (ps := ["_law_stand_here", "_law_wish_here"]) fun _ _ _ _ _ _ us hl => match us, hl with | [_, _], _ => rfl
  have F_LTooMany := fun_mk (st := sLTooMany) l15 c15 k15
  have g_LTooMany := PySem.W.mg_of X G a15
  have b_LTooMany := F_LTooMany.binds (ps := ["_law_stand_here", "_law_wish_here"]) fun _ _ _ _ _ _ us hl => match us, hl with | [_, _], _ => rfl
  have F_Law := fun_mk (st := sLaw) l16 c16 k16
  have g_Law := PySem.W.mg_of X G a16
  have m_abs := PySem.W.mg_none_of X G z_abs
  have m_len := PySem.W.mg_none_of X G z_len
  have m_isinstance := PySem.W.mg_none_of X G z_isinstance
  have m_int := PySem.W.mg_none_of X G z_int
  have m_bool := PySem.W.mg_none_of X G z_bool
  have m_tuple := PySem.W.mg_none_of X G z_tuple
  have m_list := PySem.W.mg_none_of X G z_list
  have m_str := PySem.W.mg_none_of X G z_str
  have m_range := PySem.W.mg_none_of X G z_range
  have m_repr := PySem.W.mg_none_of X G z_repr
  have m_sum := PySem.W.mg_none_of X G z_sum
  have m_zip := PySem.W.mg_none_of X G z_zip
  have m_min := PySem.W.mg_none_of X G z_min
  have m_max := PySem.W.mg_none_of X G z_max
  refine ⟨PySem.W.fnOf "law" "law" (defArgs sLaw) (defBody sLaw) (defScope sLaw) .none kv16 dc16 pm16 an16 cd16 ct16, fun s v => .of_eq rfl, fun base _ _ => ?_⟩
  · have C_Next := Callee.mk' (P := l.prog) (w := w) (base := base) F_Next g_Next b_Next (ok_next (k := 0) F_Next m_len)
    have C_Deck := Callee.mk' (P := l.prog) (w := w) (base := base) F_Deck g_Deck b_Deck (ok_deck (k := 0) F_Deck m_len m_abs)
    have C_One := Callee.mk' (P := l.prog) (w := w) (base := base) F_One g_One b_One (ok_one (k := 1) F_One m_len C_Next (by decide))
    have C_House := Callee.mk' (P := l.prog) (w := w) (base := base) F_House g_House b_House (ok_house (k := 2) F_House m_range m_tuple (C_Next.mono (by decide)) C_One (by decide))
    have C_Amount := Callee.mk' (P := l.prog) (w := w) (base := base) F_Amount g_Amount b_Amount (ok_amount (k := 1) F_Amount m_min C_Next (by decide))
    have C_Row := Callee.mk' (P := l.prog) (w := w) (base := base) F_Row g_Row b_Row (ok_row (k := 2) F_Row m_min m_range m_tuple (C_Next.mono (by decide)) C_One C_Amount (by decide))
    have C_Stand := Callee.mk' (P := l.prog) (w := w) (base := base) F_Stand g_Stand b_Stand (ok_stand (k := 3) F_Stand m_tuple C_Row (by decide))
    have C_Put := Callee.mk' (P := l.prog) (w := w) (base := base) F_Put g_Put b_Put (ok_put (k := 0) F_Put m_tuple m_list)
    have C_Free := Callee.mk' (P := l.prog) (w := w) (base := base) F_Free g_Free b_Free (ok_free (k := 0) F_Free m_sum m_len m_range)
    have C_Wish := Callee.mk' (P := l.prog) (w := w) (base := base) F_Wish g_Wish b_Wish (ok_wish (k := 2) (j := 2) F_Wish m_min m_range m_len (C_Next.mono (by decide)) C_Amount (C_Free.mono (by decide)) (C_Put.mono (by decide)) (by decide))
    have C_Case := Callee.mk' (P := l.prog) (w := w) (base := base) F_Case g_Case b_Case (ok_case (k := 4) (j := 4) F_Case (C_Next.mono (by decide)) (C_House.mono (by decide)) C_Stand (C_Wish.mono (by decide)) (by decide))
    have C_Amiss := Callee.mk' (P := l.prog) (w := w) (base := base) F_Amiss g_Amiss b_Amiss (ok_amiss (k := 0) F_Amiss m_tuple m_zip)
    have C_TooMany := Callee.mk' (P := l.prog) (w := w) (base := base) F_TooMany g_TooMany b_TooMany (ok_toomany (k := 1) F_TooMany m_sum m_max C_Amiss (by decide))
    have C_LAmiss := Callee.mk' (P := l.prog) (w := w) (base := base) F_LAmiss g_LAmiss b_LAmiss (ok_lamiss (k := 0) F_LAmiss m_zip)
    have C_LTooMany := Callee.mk' (P := l.prog) (w := w) (base := base) F_LTooMany g_LTooMany b_LTooMany (ok_ltoomany (k := 1) F_LTooMany m_sum C_LAmiss (by decide))
    have C_Same0 := Callee.mk' (P := l.prog) (w := w) (base := base) F_Same g_Same b_Same (no_same (k := 0))
    have C_Same1 := Callee.mk' (P := l.prog) (w := w) (base := base) F_Same g_Same b_Same (ok_same (k := 0) (j := 0) 0 F_Same m_len m_isinstance m_tuple m_list m_int m_str m_bool m_range C_Same0 (by decide))
    have C_Same2 := Callee.mk' (P := l.prog) (w := w) (base := base) F_Same g_Same b_Same (ok_same (k := 1) (j := 1) 1 F_Same m_len m_isinstance m_tuple m_list m_int m_str m_bool m_range C_Same1 (by decide))
    have C_Same3 := Callee.mk' (P := l.prog) (w := w) (base := base) F_Same g_Same b_Same (ok_same (k := 2) (j := 2) 2 F_Same m_len m_isinstance m_tuple m_list m_int m_str m_bool m_range C_Same2 (by decide))
    have C_Same4 := Callee.mk' (P := l.prog) (w := w) (base := base) F_Same g_Same b_Same (ok_same (k := 3) (j := 3) 3 F_Same m_len m_isinstance m_tuple m_list m_int m_str m_bool m_range C_Same3 (by decide))
    exact ok_law (k := 5) F_Law m_range m_tuple m_repr m_sum (C_Deck.mono (by decide)) C_Case (C_Amiss.mono (by decide)) (C_TooMany.mono (by decide)) (C_LAmiss.mono (by decide)) (C_LTooMany.mono (by decide)) (C_Same4.mono (by decide))
end Fr
open PySem PySem.W PyProof.Rows
set_option maxHeartbeats 0 in
theorem PySem.Challenge.cw_fullrooms_k10_what_is_amiss_holds : PySem.Challenge.rw_fullrooms_k10_what_is_amiss.Holds := by
  w_on; o_law; k_head; (case hw => w_witness2)
  k_fill
  refine Fr.walkG (l := PySem.Challenge.rw_fullrooms_k10_what_is_amiss) (n := 63) (k := 6) (x := "_law_script") (sp := fun w => Fr.spLaw _) rfl (by decide) rfl
    ⟨rfl, by decide, by decide⟩ (fun w h Y => PySem.W.kIn_of Y) ?F (fun _ _ a ns hl _ hS => ⟨a, ns, rfl, hS, hl, fun _ => rfl⟩)
  case F =>
    intro w mg fa h KX G hmg
    refine' Fr.all_mk KX G hmg ?a0 ?l0 ?c0 ?k0 ?a1 ?l1 ?c1 ?k1 ?a2 ?l2 ?c2 ?k2 ?a3 ?l3 ?c3 ?k3 ?a4 ?l4 ?c4 ?k4 ?a5 ?l5 ?c5 ?k5 ?a6 ?l6 ?c6 ?k6 ?a7 ?l7 ?c7 ?k7 ?a8 ?l8 ?c8 ?k8 ?a9 ?l9 ?c9 ?k9 ?a10 ?l10 ?c10 ?k10 ?a11 ?l11 ?c11 ?k11 ?a12 ?l12 ?c12 ?k12 ?a13 ?l13 ?c13 ?k13 ?a14 ?l14 ?c14 ?k14 ?a15 ?l15 ?c15 ?k15 ?a16 ?l16 ?c16 ?k16 ?z_abs ?z_len ?z_isinstance ?z_int ?z_bool ?z_tuple ?z_list ?z_str ?z_range ?z_repr ?z_sum ?z_zip ?z_min ?z_max
    (case a0 => k_is); (case l0 => k_is); (case c0 => k_is); (case k0 => k_is); (case a1 => k_is); (case l1 => k_is); (case c1 => k_is); (case k1 => k_is); (case a2 => k_is); (case l2 => k_is); (case c2 => k_is); (case k2 => k_is); (case a3 => k_is); (case l3 => k_is); (case c3 => k_is); (case k3 => k_is); (case a4 => k_is); (case l4 => k_is); (case c4 => k_is); (case k4 => k_is); (case a5 => k_is); (case l5 => k_is); (case c5 => k_is); (case k5 => k_is); (case a6 => k_is); (case l6 => k_is); (case c6 => k_is); (case k6 => k_is); (case a7 => k_is); (case l7 => k_is); (case c7 => k_is); (case k7 => k_is); (case a8 => k_is); (case l8 => k_is); (case c8 => k_is); (case k8 => k_is); (case a9 => k_is); (case l9 => k_is); (case c9 => k_is); (case k9 => k_is); (case a10 => k_is); (case l10 => k_is); (case c10 => k_is); (case k10 => k_is); (case a11 => k_is); (case l11 => k_is); (case c11 => k_is); (case k11 => k_is); (case a12 => k_is); (case l12 => k_is); (case c12 => k_is); (case k12 => k_is); (case a13 => k_is); (case l13 => k_is); (case c13 => k_is); (case k13 => k_is); (case a14 => k_is); (case l14 => k_is); (case c14 => k_is); (case k14 => k_is); (case a15 => k_is); (case l15 => k_is); (case c15 => k_is); (case k15 => k_is); (case a16 => k_is); (case l16 => k_is); (case c16 => k_is); (case k16 => k_is); (case z_abs => k_is); (case z_len => k_is); (case z_isinstance => k_is); (case z_int => k_is); (case z_bool => k_is); (case z_tuple => k_is); (case z_list => k_is); (case z_str => k_is); (case z_range => k_is); (case z_repr => k_is); (case z_sum => k_is); (case z_zip => k_is); (case z_min => k_is); (case z_max => k_is)
