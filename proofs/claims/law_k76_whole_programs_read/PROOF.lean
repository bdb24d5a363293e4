import PyProof.Rows.All
import Wide.All
import OpenK.AllK
import Wide.FinOn
import HandS.ForMost
import HandS.ForExc
import HandS.EndBits
import HandS.EndTab
import HandS.Lambda
import HandS.ExcInit
import HandS.ExcValue
import HandS.ExcIs
import HandS.IsInst
import PyProof.ReprLen
import PyProof.StrLawsRepr
import HandS.TryMany
import HandS.ExcField
import HandS.CallLocal
import HandS.Gcd
import HandS.Wide
import HandS.ExcCtx
import HandS.ExcInitHot
import HandS.RaiseFrom
import HandS.SuiteRaise
import KE.DataEq
import HandS.SlotsOwn
import HandS.WordsExc
import KE.GoesZip
import KE.GoesMore
import KE.GoesEnum
import HandS.Zip
import HandS.TupAny
import PyProof.StrOps2
import KE.IntTextLaws
import KE.KIntText
import KE.IntTextText
import HandS.Star
import HandS.Dict
import HandS.Style
import HandS.Finally
import KE.GoesEnumKw
import HandS.SortKw
import HandS.Codes
import HandS.MapJoin
import HandS.WideBits
import HandS.RaiseMore
import HandS.StrMore
import HandS.Conv
import HandS.More
import PyProof.InstEq
import HandS.Replace
import HandS.ReplaceLit
import PyProof.ToksMono
import HandS.Walk
import PySem.Challenge.RW_nearcurves_k76_whole_programs_read
set_option Elab.async false
set_option linter.all false
set_option maxRecDepth 100000
set_option maxHeartbeats 4000000
/-! common: data with dicts, repr, a promise where no guard stands, the entry -/
namespace Vf
open PySem PySem.Spec PyProof.Rows L2

/-- a key as data -/
def kD : Key → PyData
  | .inl i => .int i
  | .inr x => .str x

mutual
/-- the value v, read in H, is the data d (dicts too) -/
inductive Dt (K : PySem.W.Frag) (H : Hp) : V → PyData → Prop
  | non : Dt K H .non .none
  | bl (b : Bool) : Dt K H (.bl b) (.bool b)
  | int (i : Int) : Dt K H (.int i) (.int i)
  | str (x : Str) : Dt K H (.str x) (.str x)
  | lst {a : Addr} {vs : List V} {ds : List PyData} : SqL K H a vs → Dts K H vs ds → Dt K H (.ref a) (.list ds)
  | tup {a : Addr} {vs : List V} {ds : List PyData} : SqT K H a vs → Dts K H vs ds → Dt K H (.ref a) (.tuple ds)
  | dct {a : Addr} {kvs : List (Key × V)} {ds : List PyData} : H a = some (.dK kvs) → Dts K H (kvs.map (·.2)) ds → Dt K H (.ref a) (.dict ((kvs.map fun p => kD p.1).zip ds))
inductive Dts (K : PySem.W.Frag) (H : Hp) : List V → List PyData → Prop
  | nil : Dts K H [] []
  | cons {v : V} {vs : List V} {d : PyData} {ds : List PyData} : Dt K H v d → Dts K H vs ds → Dts K H (v :: vs) (d :: ds)
end

theorem Dts.len {K : PySem.W.Frag} {H : Hp} : ∀ {vs : List V} {ds : List PyData}, Dts K H vs ds → vs.length = ds.length
  | _, _, .nil => rfl
  | _, _, .cons _ t => congrArg (· + 1) t.len
theorem Dts.at {K : PySem.W.Frag} {H : Hp} : ∀ {vs : List V} {ds : List PyData} {i : Nat} {v : V}, Dts K H vs ds → vs[i]? = some v → ∃ d, ds[i]? = some d ∧ Dt K H v d
  | _, _, _, _, .nil, e => by simp at e
  | _, _, 0, _, .cons h _, e => by simp at e; subst e; exact ⟨_, rfl, h⟩
  | _, _, i + 1, v, .cons _ t, e => by
    obtain ⟨d, h1, h2⟩ := t.at (i := i) (v := v) (by simpa using e)
    exact ⟨d, by simpa using h1, h2⟩
theorem Dts.app {K : PySem.W.Frag} {H : Hp} : ∀ {vs ws : List V} {ds es : List PyData}, Dts K H vs ds → Dts K H ws es → Dts K H (vs ++ ws) (ds ++ es)
  | _, _, _, _, .nil, h => h
  | _, _, _, _, .cons a t, h => .cons a (t.app h)
theorem Dts.take {K : PySem.W.Frag} {H : Hp} : ∀ {vs : List V} {ds : List PyData} (n : Nat), Dts K H vs ds → Dts K H (vs.take n) (ds.take n)
  | _, _, 0, _ => .nil
  | _, _, _ + 1, .nil => .nil
  | _, _, n + 1, .cons a t => .cons a (t.take n)

/-- all that is tracked in H stands in H' -/
theorem same_sqL {K : PySem.W.Frag} {H H' : Hp} {a : Addr} {xs : List V} (e : Same H H') (h : SqL K H a xs) : SqL K H' a xs := e.seq h
theorem same_sqT {K : PySem.W.Frag} {H H' : Hp} {a : Addr} {xs : List V} (e : Same H H') (h : SqT K H a xs) : SqT K H' a xs := by
  rcases h with (h | ⟨o, h⟩) | h
  · exact Or.inl (Or.inl (e a _ h))
  · exact Or.inl (Or.inr ⟨o, e a _ h⟩)
  · exact Or.inr h
mutual
theorem Dt.mono {K : PySem.W.Frag} {H H' : Hp} (e : Same H H') : ∀ {v : V} {d : PyData}, Dt K H v d → Dt K H' v d
  | _, _, .non => .non
  | _, _, .bl b => .bl b
  | _, _, .int i => .int i
  | _, _, .str x => .str x
  | _, _, .lst h1 h2 => .lst (same_sqL e h1) (Dts.mono e h2)
  | _, _, .tup h1 h2 => .tup (same_sqT e h1) (Dts.mono e h2)
  | _, _, .dct h1 h2 => .dct (e _ _ h1) (Dts.mono e h2)
theorem Dts.mono {K : PySem.W.Frag} {H H' : Hp} (e : Same H H') : ∀ {vs : List V} {ds : List PyData}, Dts K H vs ds → Dts K H' vs ds
  | _, _, .nil => .nil
  | _, _, .cons h1 h2 => .cons (Dt.mono e h1) (Dts.mono e h2)
end

/-- the dict of modules stands in the base -/
def M1 (b : Heap) : Prop := ∃ o es ep, b.get? sysModules = some o ∧ o.data = .dict es ep

theorem key_reads {h : Heap} {P : Program} {w : World} : ∀ {es : List DictEntry} {vs : List (Key × Value)} {ps : List (Key × V)}, PySem.Pairs (mixKind P w) es vs → KV ps vs →
    ReadsAll h (es.map (·.key)) (ps.map fun p => kD p.1) [] ∧ Vals (ps.map (·.2)) (es.map (·.val))
  | _, _, _, .nil, .nil => ⟨.nil, .nil⟩
  | _, _, _, .cons k1 k2 t, .cons r1 r2 => by
    obtain ⟨g1, g2⟩ := key_reads (h := h) t r2
    obtain ⟨e1, e2⟩ := r1
    refine ⟨?_, .cons (by have z := e2; rw [← k2] at z; exact z) g2⟩
    rw [← e1] at k1
    rename_i e kv es' kvs' p ps'
    have k3 : keyIs p.1 e.key = true := k1
    rcases keyIs_shape k3 with ⟨i, t, a1, a2⟩ | ⟨x, t, a1, a2⟩
    · have z : Reads h e.key (kD p.1) [] := by rw [a1, a2]; exact .int i t
      exact .cons (as := []) (bs := []) z g1
    · have z : Reads h e.key (kD p.1) [] := by rw [a1, a2]; exact .str x t
      exact .cons (as := []) (bs := []) z g1
theorem zip_fst {α β : Type} : ∀ {l : List α} {r : List β}, l.length = r.length → (l.zip r).map (·.1) = l
  | [], _, _ => by simp
  | a :: l, [], h => by simp at h
  | a :: l, b :: r, h => by
    rw [List.zip_cons_cons, List.map_cons, zip_fst (by simpa using h)]
theorem zip_snd {α β : Type} : ∀ {l : List α} {r : List β}, l.length = r.length → (l.zip r).map (·.2) = r
  | [], [], _ => rfl
  | [], b :: r, h => by simp at h
  | a :: l, [], h => by simp at h
  | a :: l, b :: r, h => by
    rw [List.zip_cons_cons, List.map_cons, zip_snd (by simpa using h)]

section
variable {X : Cx} {pins : List (Addr × Obj)} {σ : L2.St} {H : Hp} {s : Shared}
theorem not_sys (I : Inv X pins σ H s) (m : M1 X.base) {a : Addr} {o : Obj} {vs : Array Value} {n : Nat} (e : s.heap.get? a = some o) (d : o.data = .seq vs n) : sysModules ≠ a := fun z => by
  obtain ⟨o1, es, ep, e1, e2⟩ := m
  have q := I.bk _ _ e1
  rw [z, e] at q
  cases q
  rw [d] at e2
  cases e2
mutual
theorem Dt.reads (I : Inv X pins σ H s) (m : M1 X.base) : ∀ {v : V} {d : PyData} {u : Value}, Dt X.K H v d → RelV v u → ∃ as, Reads s.heap u d as ∧ sysModules ∉ as
  | _, _, u, .non, r => by
    obtain rfl : u = Value.none := r
    exact ⟨[], .none, by simp⟩
  | _, _, u, .bl b, r => by
    obtain rfl : u = Value.bool b := r
    exact ⟨[], .bool b, by simp⟩
  | _, _, u, .int i, r => by
    obtain ⟨t, rfl⟩ := r
    exact ⟨[], .int i t, by simp⟩
  | _, _, u, .str x, r => by
    obtain ⟨t, rfl⟩ := r
    exact ⟨[], .str x t, by simp⟩
  | _, _, u, .lst (a := a) h1 h2, r => by
    obtain rfl : u = Value.ref a := r
    obtain ⟨its, rv, ⟨o, n, e1, e2, e3, e4⟩, hz⟩ := I.list h1
    obtain ⟨as, ra, na⟩ := Dts.reads I m h2 rv
    refine ⟨_, .list e1 e2 e4 (by simpa using ra), fun z => ?_⟩
    rcases List.mem_cons.mp z with z | z
    · exact not_sys I m e1 e4 z
    · exact na z
  | _, _, u, .tup (a := a) h1 h2, r => by
    obtain rfl : u = Value.ref a := r
    obtain ⟨its, rv, ⟨o, e1, e2, n, e4⟩, hz⟩ := I.tuple h1
    obtain ⟨as, ra, na⟩ := Dts.reads I m h2 rv
    exact ⟨_, .tuple e1 e2 e4 (by simpa using ra), na⟩
  | _, _, u, .dct (a := a) (kvs := ps) (ds := ds) h1 h2, r => by
    obtain rfl : u = Value.ref a := r
    obtain ⟨hz, hs, vs, kv, o, es, ep, e1, ex, e2, hk, hp, hn⟩ := dk_of I.hok h1
    obtain ⟨g1, g2⟩ := key_reads (h := s.heap) hp kv
    obtain ⟨bs, rb, nb⟩ := Dts.reads I m h2 g2
    have hl : (ps.map fun p => kD p.1).length = ds.length := by
      have z := h2.len
      rw [List.length_map] at z ⊢
      exact z
    refine ⟨a :: [] ++ bs, .dict e1 ex.1 e2 (by rw [zip_fst hl]; exact g1) (by rw [zip_snd hl]; exact rb), fun z => ?_⟩
    rcases List.mem_cons.mp z with z | z
    · rw [z] at hs
      simp at hs
    · exact nb z
theorem Dts.reads (I : Inv X pins σ H s) (m : M1 X.base) : ∀ {vs : List V} {ds : List PyData} {us : List Value}, Dts X.K H vs ds → Vals vs us → ∃ as, ReadsAll s.heap us ds as ∧ sysModules ∉ as
  | _, _, _, .nil, .nil => ⟨[], .nil, by simp⟩
  | _, _, _, .cons h1 h2, .cons r1 r2 => by
    obtain ⟨as, q1, n1⟩ := Dt.reads I m h1 r1
    obtain ⟨bs, q2, n2⟩ := Dts.reads I m h2 r2
    refine ⟨as ++ bs, .cons q1 q2, fun z => ?_⟩
    rcases List.mem_append.mp z with z | z
    · exact n1 z
    · exact n2 z
end
end

/-- the sizes of the parts of a text of data -/
def small : PyData → Prop := fun d => d.showable = true ∧ d.depth ≤ 64 ∧ d.shown.length ≤ sizeLine
/-- repr of data, where no guard stands -/
theorem call_reprD {X : Cx} {k : Nat} (hg : X.A.guards = some []) (hr : Room k X.A) (m : M1 X.base) :
    CallR X (.builtin "repr") (fun xs H Q => ∃ v d, xs = [v] ∧ Dt X.K H v d ∧ small d ∧ Q (.str d.shown) H) := by
  intro pins s σ H xs us Q I r h
  obtain ⟨v, d, rfl, hd, ⟨hs, hz, hl⟩, q⟩ := h
  obtain ⟨u, rfl, ru⟩ := vals1 r
  obtain ⟨as, rd, na⟩ := Dt.reads I m hd ru
  cases rd with
  | none => exact PySem.P.repr_of_none ⟨.str _, H, I.tok _, ⟨_, rfl⟩, by simpa only [PyData.shown] using q⟩
  | bool b => exact PySem.P.repr_of_bool ⟨.str _, H, I.tok _, ⟨_, rfl⟩, by simpa only [PyData.shown] using q⟩
  | int i t => exact PySem.P.repr_of_int (by simpa [PyData.showable] using hs) ⟨.str _, H, I.tok _, ⟨_, rfl⟩, by simpa only [PyData.shown] using q⟩
  | str x t => exact PySem.P.repr_of_str ⟨.str _, H, I.tok _, ⟨_, rfl⟩, by simpa only [PyData.shown] using q⟩ (by simpa only [PyData.shown] using hl)
  | list a1 a2 a3 a4 => exact repr_of_reads' (.list a1 a2 a3 a4) hs (fun _ => na) hg (by have := hr.un; omega) (fun _ _ e => e) (fun h' u tk hk => ⟨.str _, H, I.kept hk, ⟨_, rfl⟩, q⟩) hl
  | tuple a1 a2 a3 a4 => exact repr_of_reads' (.tuple a1 a2 a3 a4) hs (fun _ => na) hg (by have := hr.un; omega) (fun _ _ e => e) (fun h' u tk hk => ⟨.str _, H, I.kept hk, ⟨_, rfl⟩, q⟩) hl
  | dict a1 a2 a3 a4 a5 => exact repr_of_reads' (.dict a1 a2 a3 a4 a5) hs (fun _ => na) hg (by have := hr.un; omega) (fun _ _ e => e) (fun h' u tk hk => ⟨.str _, H, I.kept hk, ⟨_, rfl⟩, q⟩) hl

/-! ### a promise that is asked only where no guard stands -/
structure FnG (P : Program) (w : World) (K : PySem.W.Frag) (mg : Str → Option Value) (base : Heap) (C : CXT) (k : Nat) (f : Addr) (fd : FuncData) (ps : List Str) (sp : Sp) : Prop where
  arity : ∀ vs H Q E, sp vs H Q E → vs.length = ps.length
  go : ∀ {A : Around} {out : List Env} {s : Shared} {H : Hp} {args : Args} {us : List Value} {vs : List V} {Q : VK} {E : XK}, A.guards = some [] → Room k A → Env0 P w K mg base A out s H → BindsTo s fd args (ps.zip us) →
    Vals vs us → sp vs H Q E → codeAny (model P w) A (.call (.ref f) args) (CR C out P w H s Q E) s
theorem fnG_of {C : CXT} {P : Program} {w : World} {K : PySem.W.Frag} {mg : Str → Option Value} {base : Heap} {x qual : Str} {st : Stmt} {f : Addr} {fd : FuncData} {N ps : List Str} {k : Nat} {sp : Sp} (F : Fun K x qual st f fd) (S : FnScope N ps (defScope st))
    (ar : ∀ vs H Q E, sp vs H Q E → vs.length = ps.length)
    (body : ∀ (cdv : Value) (A : Around) (out : List Env) (s : Shared) (H : Hp) (vs : List V) (Q : VK) (E : XK), A.guards = some [] → Room k (A.deeper (envOfC qual (defScope st) s.heap.objs.size f cdv)) → PySem.W.codeIn K cdv qual = true → sp vs H Q E →
      ∃ t, PSs (cxOf C P w K mg base N qual (defScope st) f cdv A out s H E) (defBody st) t ∧ t { nx := fun _ H' => Q .non H', rt := Q } (start N vs) H) : FnG P w K mg base C (k + 1) f fd ps sp := by
  obtain ⟨oc, od, kV, doc, pm, an, cdv, ct, osl, e, lk, hcd⟩ := F.ex
  subst e
  refine ⟨ar, fun {A out s H args us vs Q E} hgu hr e0 hb r h => ?_⟩
  exact LamX.run_ofS lk hcd S hr e0 hb r (ar _ _ _ _ h) fun hr' => body cdv A out s H vs Q E hgu hr' hcd h

theorem fnG_of0 {P : Program} {w : World} {K : PySem.W.Frag} {mg : Str → Option Value} {base : Heap} {x qual : Str} {st : Stmt} {f : Addr} {fd : FuncData} {N ps : List Str} {k : Nat} {sp : Sp} (F : Fun K x qual st f fd) (S : FnScope N ps (defScope st))
    (ar : ∀ vs H Q E, sp vs H Q E → vs.length = ps.length)
    (body : ∀ (cdv : Value) (A : Around) (out : List Env) (s : Shared) (H : Hp) (vs : List V) (Q : VK) (E : XK), A.guards = some [] → Room k (A.deeper (envOfC qual (defScope st) s.heap.objs.size f cdv)) → PySem.W.codeIn K cdv qual = true → sp vs H Q E →
      ∃ t, PSs (cxOf CX0 P w K mg base N qual (defScope st) f cdv A out s H E).nox (defBody st) t ∧ t { nx := fun _ H' => Q .non H', rt := Q } (start N vs) H) : FnG P w K mg base CX0 (k + 1) f fd ps sp :=
  fnG_of F S ar fun cdv A out s H vs Q E h1 h2 h3 h4 => by
    obtain ⟨t, z, q⟩ := body cdv A out s H vs Q E h1 h2 h3 h4
    exact ⟨t, z.nox, q⟩

/-! ### the entry -/
/-- what is tracked where the law is called: the script, the tables of code objects -/
structure Fit (P : Program) (w : World) (K : PySem.W.Frag) (h : Heap) (cs : List (Addr × Addr)) (a : Addr) (ns : List Int) (H : Hp) : Prop where
  tabs : ∀ p ∈ cs, H p.2 = some (.tbl #[])
  scr : SqL K H a (ns.map V.int)
  held : HOk P w H h
  only : ∀ b u, H b = some u → (b = a ∧ K.lookup a = none ∧ ∃ o xs, u = .frz o (.lst xs)) ∨ ((∃ p ∈ cs, b = p.2) ∧ u = .tbl #[])
def isTab (cs : List (Addr × Addr)) (b : Addr) : Bool := cs.any fun p => p.2 == b
theorem isTab_mem {cs : List (Addr × Addr)} {b : Addr} (h : isTab cs b = true) : ∃ p ∈ cs, b = p.2 := by
  obtain ⟨p, hp, e⟩ := List.any_eq_true.mp h
  exact ⟨p, hp, (beq_iff_eq.mp e).symm⟩
theorem isTab_of {cs : List (Addr × Addr)} {p : Addr × Addr} (h : p ∈ cs) : isTab cs p.2 = true := List.any_eq_true.mpr ⟨p, h, beq_self_eq_true _⟩
/-- the heap as it is told at the entry -/
def entryH (t : Bool) (o : Obj) (ns : List Int) (cs : List (Addr × Addr)) (a : Addr) : Hp := fun b =>
  if isTab cs b = true then some (.tbl #[]) else if t = true ∧ b = a then some (.frz o (.lst (ns.map V.int))) else none
theorem fit_ex {P : Program} {w : World} {K : PySem.W.Frag} {h : Heap} {cs : List (Addr × Addr)} {a : Addr} {vs : List Value} {ns : List Int} (hK : K.In h) (hT : ∀ p ∈ cs, h.get? p.2 = some { cls := .none, data := .fields #[] })
    (ha : h.get? a = some { cls := .type "list", data := .seq vs.toArray }) (hi : IntsAre vs ns) (hl : ns.length ≤ sizeLine) : ∃ H, Fit P w K h cs a ns H := by
  have rv := vals_ints hi
  have nt : isTab cs a = false := by
    cases e : isTab cs a with
    | false => rfl
    | true =>
      obtain ⟨p, hp, e2⟩ := isTab_mem e
      have q := hT p hp
      rw [← e2, ha] at q
      cases q
  have hl2 : (ns.map V.int).length ≤ sizeLine := by rw [List.length_map]; exact hl
  cases hk : K.lookup a with
  | some o =>
    have q := hK a o hk
    rw [ha] at q
    have q2 := Option.some.inj q
    refine ⟨entryH false { cls := .type "list", data := .seq vs.toArray } ns cs a, fun p hp => if_pos (isTab_of hp), ?_, fun b u e => ?_, fun b u e => ?_⟩
    · refine Or.inr ⟨o, vs.toArray, 0, hk, by rw [← q2], by rw [← q2], by rw [← q2], ?_, by simpa using rv⟩
      rw [List.size_toArray, hi.length]
      exact hl
    all_goals
      unfold entryH at e
      by_cases t : isTab cs b = true
      · rw [if_pos t] at e
        obtain ⟨p, hp, e2⟩ := isTab_mem t
        cases e
        first
          | (rw [e2]; exact hT p hp)
          | exact Or.inr ⟨⟨p, hp, e2⟩, rfl⟩
      · rw [if_neg t, if_neg (fun z => Bool.false_ne_true z.1)] at e
        cases e
  | none =>
    refine ⟨entryH true { cls := .type "list", data := .seq vs.toArray } ns cs a, fun p hp => if_pos (isTab_of hp), ?_, fun b u e => ?_, fun b u e => ?_⟩
    · refine Or.inl (Or.inr ⟨{ cls := .type "list", data := .seq vs.toArray }, ?_⟩)
      unfold entryH
      rw [if_neg (by rw [nt]; decide), if_pos ⟨rfl, rfl⟩]
    all_goals
      unfold entryH at e
      by_cases t : isTab cs b = true
      · rw [if_pos t] at e
        obtain ⟨p, hp, e2⟩ := isTab_mem t
        cases e
        first
          | (rw [e2]; exact hT p hp)
          | exact Or.inr ⟨⟨p, hp, e2⟩, rfl⟩
      · rw [if_neg t] at e
        by_cases ba : b = a
        · rw [if_pos ⟨rfl, ba⟩] at e
          cases e
          first
            | (rw [ba]; exact ⟨ha, hl2, vs, _, rv, ha⟩)
            | exact Or.inl ⟨ba, hk, _, _, rfl⟩
        · rw [if_neg (fun z => ba z.2)] at e
          cases e
/-- the law's call, from its promise where no guard stands -/
theorem law_enter {P : Program} {w : World} {K : PySem.W.Frag} {mg mb : Str → Option Value} {C : CXT} {k : Nat} {fa a : Addr} {cs : List (Addr × Addr)} {fd : FuncData} {x : Str} {sp : Sp} {s1 : Shared} {vs : List Value} {ns : List Int}
    (hK : K.In s1.heap) (hG : s1.heap.Ns mainGlobals mg) (hB : s1.heap.Ns builtinsNs mb) (hBB : ∀ x : Str, x ≠ "__name__" → mb x = bootBuiltins x) (hL : s1.heap.NoLimit) (hg : s1.gens = #[])
    (hT : ∀ p ∈ cs, s1.heap.get? p.2 = some { cls := .none, data := .fields #[] }) (nT : ∀ p ∈ cs, K.lookup p.2 = none) (hC : ∀ p ∈ cs, PySem.W.CodeHd s1.heap p.1 p.2)
    (hM : ∃ (bm : Addr) (ob : Obj), mg "__builtins__" = some (.ref bm) ∧ bm ≠ builtinsNs ∧ s1.heap.get? bm = some ob ∧ ob.cls = .type "module" ∧ ob.dict = some builtinsNs ∧ ob.data = .plain)
    (hs : M1 s1.heap) (ha : s1.heap.get? a = some { cls := .type "list", data := .seq vs.toArray }) (hi : IntsAre vs ns) (hl : ns.length ≤ sizeLine) (hr : Room k callerA)
    (F : ∀ b : Heap, K.In b → b.Ns mainGlobals mg → M1 b → (∀ p ∈ cs, LamX.TabB b mg p.1 p.2) → FnG P w K mg b C k fa fd [x] sp) (bind : ∀ (s : Shared) (u : Value), BindsTo s fd ⟨[u], []⟩ [(x, u)])
    (hsp : ∀ H : Hp, (∀ p ∈ cs, H p.2 = some (.tbl #[])) → SqL K H a (ns.map V.int) → sp [.ref a] H (fun v _ => v = .bl true) E0)
    (hE : ∀ H e s', C [] H s1 E0 e s' → False) :
    codeAny (model P w) callerA (.call (.ref fa) ⟨[.ref a], []⟩) (fun r s' => r = .ok (.ret (.bool true)) ∧ OldK s1.heap s'.heap ∧ s'.os = s1.os ∧ AllBare s'.gens) s1 := by
  obtain ⟨H, ft⟩ := fit_ex (P := P) (w := w) hK hT ha hi hl
  -- an object of neither kind is not tracked
  have un : ∀ {b : Addr} {o : Obj}, s1.heap.get? b = some o → (∀ us n, o.data ≠ .seq us n) → o.data ≠ .fields #[] → H b = none := by
    intro b o e n1 n2
    cases q : H b with
    | none => rfl
    | some u =>
      exfalso
      rcases ft.only b u q with ⟨z, _⟩ | ⟨⟨p, hp, z⟩, _⟩
      · rw [z, ha] at e
        cases e
        exact n1 _ _ rfl
      · rw [z, hT p hp] at e
        cases e
        exact n2 rfl
  have inB : ∀ {b : Addr} {o : Obj}, s1.heap.get? b = some o → (∀ us n, o.data ≠ .seq us n) → o.data ≠ .fields #[] → (hidT s1.heap H).get? b = some o := fun e n1 n2 => hidT_get e (un e n1 n2)
  have nsB : ∀ {b : Addr} {m : Str → Option Value}, s1.heap.Ns b m → (hidT s1.heap H).Ns b m := by
    intro b m ⟨o, es, ep, e, d, r⟩
    refine ⟨o, es, ep, inB e (fun us n z => ?_) (fun z => ?_), d, r⟩ <;> rw [d] at z <;> cases z
  have kB : K.In (hidT s1.heap H) := fun b o e => by
    refine hidT_get (hK b o e) ?_
    cases q : H b with
    | none => rfl
    | some u =>
      exfalso
      rcases ft.only b u q with ⟨z, n, _⟩ | ⟨⟨p, hp, z⟩, _⟩
      · rw [z, n] at e
        cases e
      · rw [z, nT p hp] at e
        cases e
  have mB : M1 (hidT s1.heap H) := by
    obtain ⟨o, es, ep, e, d⟩ := hs
    refine ⟨o, es, ep, inB e (fun us n z => ?_) (fun z => ?_), d⟩ <;> rw [d] at z <;> cases z
  have tB : ∀ p ∈ cs, LamX.TabB (hidT s1.heap H) mg p.1 p.2 := fun p hp => by
    obtain ⟨o, us, file, tf, flags, tg, inF, text, tt, c1, c2, c3, c4, c5, c6, c7, c8, c9, c10⟩ := hC p hp
    obtain ⟨bm, ob, d1, d2, d3, d4, d5, d6⟩ := hM
    have tp := hT p hp
    refine ⟨⟨o, us, file, tf, flags, tg, inF, text, tt, inB c1 (fun us n z => ?_) (fun z => ?_), c2, c3, c4, c5, c6, c7, c8, c9, c10⟩, ⟨bm, ob, d1, d2, fun z => ?_, fun z => ?_, inB d3 (fun us n z => ?_) (fun z => ?_), d4, d5, d6⟩, fun z => ?_⟩
    · rw [c3] at z
      cases z
    · rw [c3] at z
      cases z
      simp at c4
    · obtain ⟨o2, es, ep, e, d, _⟩ := hG
      rw [z, e] at d3
      cases d3
      rw [d] at d6
      cases d6
    · rw [z, tp] at d3
      cases d3
      cases d6
    · rw [d6] at z
      cases z
    · rw [d6] at z
      cases z
    · obtain ⟨o2, es, ep, e, d, _⟩ := hG
      rw [z, tp] at e
      cases e
      cases d
  have e0 : Env0 P w K mg (hidT s1.heap H) callerA [] s1 H := {
    frames := rfl
    mod := ⟨kB, nsB hG, ⟨mb, nsB hB, hBB⟩, let ⟨mc, z1, z2⟩ := hL; ⟨mc, nsB z1, z2⟩⟩
    bs := fun b o e => of_hidT e
    bsz := Nat.le_of_eq (hidT_size _ _)
    funs := trivial
    frf := fun b hb => nomatch (show b ∈ ([] : List Addr) from hb)
    hok := ft.held
    bare := .of_eq hg }
  refine codeAny_mono ((F _ kB (nsB hG) mB tB).go (us := [.ref a]) (vs := [.ref a]) rfl hr e0 (bind s1 _) (.cons rfl .nil) (hsp H ft.tabs ft.scr)) fun r s' h => ?_
  match r, h with
  | .error e, h => exact (hE H e s' h).elim
  | .ok .next, h => exact h.elim
  | .ok .brk, h => exact h.elim
  | .ok .cont, h => exact h.elim
  | .ok (.ret u), ⟨v, H', os, bare, U, held', rv, ev⟩ =>
    have ev2 : v = .bl true := ev
    rw [ev2] at rv
    obtain rfl : u = Value.bool true := rv
    have tab' : ∀ p ∈ cs, ∃ more : Array Value, s'.heap.get? p.2 = some { cls := .none, data := .fields more } := fun p hp => by
      obtain ⟨more, z⟩ := U.tbls p.2 #[] (ft.tabs p hp)
      exact ⟨_, held' _ _ z⟩
    have old : ∀ b o, isTab cs b = false → s1.heap.get? b = some o → s'.heap.get? b = some o := fun b o nb e => by
      cases q : H b with
      | none => exact U.keep b o e q (fun z => nomatch (show b ∈ ([] : List Addr) from z)) (fun z => nomatch z)
      | some y =>
        rcases ft.only b y q with ⟨_, _, ob, xs, z⟩ | ⟨⟨p, hp, z⟩, _⟩
        · rw [z] at q
          have g1 := (ft.held b _ q).1
          have g2 := (held' b _ (U.frzs b ob _ q)).1
          rw [e] at g1
          cases g1
          exact g2
        · rw [z, isTab_of hp] at nb
          cases nb
    refine ⟨rfl, ⟨fun b o e => ?_, fun b o e => ?_⟩, os, bare⟩
    · cases nb : isTab cs b with
      | false => exact .inl (old b o nb e)
      | true =>
        obtain ⟨p, hp, z⟩ := isTab_mem nb
        obtain ⟨more, hm⟩ := tab' p hp
        rw [z] at e ⊢
        rw [hT p hp] at e
        cases e
        exact .inr (.inl ⟨((hC p hp).tab (hT p hp)).isCodeTable, rfl, #[], more, rfl, by rw [Array.empty_append]; exact hm⟩)
    · cases nb : isTab cs b with
      | false => exact ⟨o, old b o nb e⟩
      | true =>
        obtain ⟨p, hp, z⟩ := isTab_mem nb
        obtain ⟨more, hm⟩ := tab' p hp
        rw [z]
        exact ⟨_, hm⟩
end Vf

set_option maxRecDepth 100000
set_option maxHeartbeats 4000000
/-! exceptions held as values -/
namespace Vf
open PySem PySem.Spec PyProof.Rows L2
section
open PySem.W PySem.Calls
variable {prog : Program} {w : World} {K : Frag} {x D : Addr} {ox : Obj} {od : Option Obj}
theorem bound_any {C : Addr} {nm : Str} {a g : Value} (c : (clsIn K C).isSome = true) (fa : findIn K (.ref C) nm = some (some a)) (fg : specialIn K a "__get__" = some (some g)) (ft : takesIn K a = some true) : findObj K C od nm = some (.bind g a) := by
  obtain ⟨cd, c⟩ := Option.isSome_iff_exists.mp c
  simp only [findObj, c, fa, fg, ft, Option.bind_some]
/-- what isinstance asks of the class of an exception -/
structure XC (K : Frag) (D : Addr) : Prop where
  ga : findIn K (.ref D) "__getattribute__" = some (some (.builtin "BaseException.__getattribute__"))
  gg : findIn K (.ref D) "__getattr__" = some none
  sb : subIn K (.ref D) (.type "BaseException") = some true
  hd : hasDictIn K D = true
  ca : findIn K (.ref D) "__class__" = some (some (.builtin "object.__class__"))
  cn : specialIn K (.builtin "object.__class__") "__get__" = some (some (.builtin "getset_descriptor.__get__"))
  ct : takesIn K (.builtin "object.__class__") = some true
  mo : mroIn K D (.type "object") = some true
theorem XC.cls {K : Frag} {D : Addr} (T : XC K D) : (clsIn K D).isSome = true := by
  obtain ⟨cd, e, _⟩ := any_some T.hd
  simp only [e, Option.isSome_some]
/-- its class, asked of the exception itself, whatever its dict holds -/
theorem own_class {A : Around} {E : Value → Shared → Prop} {s : Shared} {Q : Option Value → Shared → Prop} (T : XC K D) (X : K.In s.heap) (I : InstAt s.heap x ox D od) (q : Q (some (.ref D)) { s with toks := s.toks + 1 }) :
    wpAny (model prog w) A (getAttr? (.ref x) "__class__") Q E s := by
  obtain ⟨hp, gs, dr, tk, os⟩ := s
  have l0 := I.type (M := model prog w)
  have l1 := looks_findIn (M := model prog w) X T.ga
  have l2 := looks_findIn (M := model prog w) X T.gg
  have l3 := looks_find (M := model prog w) X I (bound_any (od := od) T.cls T.ca T.cn T.ct)
  have y1 : (onTheHeap (Value.ref D) && Value.builtin "BaseException.__getattribute__" == Value.builtin "object.__getattribute__") = false := by
    rw [show (Value.builtin "BaseException.__getattribute__" == Value.builtin "object.__getattribute__") = false from by decide +kernel, Bool.and_false]
  unfold getAttr?
  unfold getAttrBy?
  unfold getAttrBy
  refine wpAny_bind (wpAny_mkText (wpAny_bind ?_))
  refine wpAny_attempt (wpAny_holding (wpAny_bind (l0.at ?_)))
  refine wpAny_bind (l1.at ?_)
  show wpAny _ _ (if (onTheHeap (Value.ref D) && Value.builtin "BaseException.__getattribute__" == Value.builtin "object.__getattribute__") = true then _ else _) _ _ _
  rw [y1]
  rw [if_neg Bool.false_ne_true]
  unfold getAttrByItsOwn
  unfold hookBefore
  refine wpAny_bind ?_
  rw [if_pos (show onTheHeap (Value.ref D) = true from rfl)]
  refine l2.at (wpAny_bind (wpAny_attempt (wpAny_holding ?_)))
  unfold callGetattribute
  rw [show (false && onTheHeap (Value.builtin "BaseException.__getattribute__")) = false from rfl, if_neg Bool.false_ne_true]
  unfold boundAndCalled
  rw [PySem.F.excAttr_ValueError.ga.bind (.ref x)]
  refine wpAny_bind (wpAny_pure ?_)
  show wpAny _ _ (call (.builtin "BaseException.__getattribute__") [.ref x, .str "__class__" tk]) _ _ _
  refine wpAny_call (codeAny_call_builtin PySem.F.excAttr_ValueError.ga.plain PySem.F.entry_bexc_ga ?_)
  have sub : Looks (model prog w) hp (isInstance (.ref x) (.type "BaseException")) true := l0.andThen (looks_subIn X T.sb)
  refine @check_slot (model prog w) _ _ ⟨hp, gs, dr, tk + 1, os⟩ "BaseException.__getattribute__" "BaseException" "__getattribute__" (.ref x) [.str "__class__" tk] [] _ (by decide +kernel) (by decide +kernel) sub
    (PySem.F.args_bexc_ga (.ref x) (.str "__class__" tk)) ?_
  unfold Builtin.«object.__getattribute__»
  refine wpAny_bind ?_
  refine wpAny_of_eq (a := ((Value.ref x : Value), [Value.str "__class__" tk])) (by first | rfl | (simp only [slotArgs]; rfl)) ?_
  refine wpAny_bind (wpAny_pure (wpAny_bind (l0.at ?_)))
  refine wpAny_bind (l3.at ?_)
  show wpAny _ _ (holding [Value.builtin "object.__class__"] (call (.builtin "getset_descriptor.__get__") [.builtin "object.__class__", .ref x, .ref D]) >>= ret) _ _ _
  refine wpAny_bind (wpAny_holding (wpAny_call (class_get (s := ⟨hp, gs, dr, tk + 1, os⟩) (od := od) X I T.mo ?_)))
  refine wpAny_pure ?_
  show wpAny _ _ (handedOut (.ref D)) _ _ _
  rw [handedOut_of (v := .ref D) rfl]
  first
    | exact wpAny_pure (wpAny_pure q)
    | exact wpAny_pure q
    | exact wpAny_pure (wpAny_bind (wpAny_pure (wpAny_pure q)))
theorem kit_own (T : XC K D) : KitX K (.ref x) (.ref D) (fun h => InstAt h x ox D od) := by
  obtain ⟨cd, e, _⟩ := any_some T.hd
  have at_ : ∃ c d sl, K.lookup D = some ⟨c, d, .cls cd, sl⟩ := by
    unfold clsIn at e
    split at e
    · rename_i ho
      cases e
      exact ⟨_, _, _, ho⟩
    · cases e
  obtain ⟨c, d, sl, ho⟩ := at_
  refine ⟨fun _ _ _ I => I.type, fun _ _ X _ => ?_, fun h tp dd its n sl' X ht => ?_, fun X I q => own_class T X I q⟩
  · intro A Q E s k q
    unfold isType
    unfold loadHead
    exact wpAny_bind (wpAny_loadPart (k _ _ (X _ _ ho)) (wpAny_pure q))
  · cases z : (Value.ref D == Value.ref tp) with
    | false => rfl
    | true =>
      have e2 : D = tp := Value.ref.inj (beq_iff_eq.mp z)
      have z2 := X _ _ ho
      rw [e2, ht] at z2
      cases z2
end

/-- an exception of the class at C stands at a as a value; what it keeps -/
def XAt (H : Hp) (a C : Addr) : Option (List (Str × V)) → Prop
  | none => H a = some (ExO (.ref C) a)
  | some fs => ∃ d, H a = some (exo a C (some d)) ∧ H d = some (exd d fs)
theorem XAt.same {H H' : Hp} {a C : Addr} {o : Option (List (Str × V))} (s : Same H H') (h : XAt H a C o) : XAt H' a C o := by
  cases o with
  | none => exact s _ _ h
  | some fs =>
    obtain ⟨d, h1, h2⟩ := h
    exact ⟨d, s _ _ h1, s _ _ h2⟩
section
variable {X : Cx} {pins : List (Addr × Obj)} {σ : L2.St} {H : Hp} {s : Shared}
theorem XAt.inst {a C : Addr} {o : Option (List (Str × V))} (I : Inv X pins σ H s) (h : XAt H a C o) : ∃ oe od, PySem.W.InstAt s.heap a oe C od := by
  cases o with
  | none =>
    obtain ⟨⟨oe, vs, e1, e2, e3, _⟩, _⟩ := I.hok a _ h
    exact ⟨oe, none, e1, e2.1, by unfold PySem.W.notCls; rw [e3] <;> rfl, by rw [e2.2]; trivial⟩
  | some fs =>
    obtain ⟨d, h1, h2⟩ := h
    obtain ⟨t1, e1⟩ := exo_at I.hok h1
    obtain ⟨mA, hn, _⟩ := exd_at I.hok h2
    obtain ⟨od, eo, _⟩ := lookIn_ns hn
    exact ⟨_, some od, e1, rfl, rfl, eo⟩
/-- isinstance of an exception that is held as a value -/
theorem call_isiX : CallR X (.builtin "isinstance") (fun xs H Q => ∃ (a C : Addr) (o : Option (List (Str × V))) (c : V) (u : Value) (b : Bool), xs = [.ref a, c] ∧ ClsV c u ∧ XAt H a C o ∧ XC X.K C ∧ PySem.W.kitOne X.K (.ref C) u = some b ∧ Q (.bl b) H) := by
  intro pins s σ H xs us Q I r h
  obtain ⟨a, C, o, c, u, b, rfl, k, x, T, e, q⟩ := h
  obtain ⟨u1, u2, rfl, r1, r2⟩ := vals2 r
  have e2 := k.eq r2
  subst e2
  obtain rfl : u1 = Value.ref a := r1
  obtain ⟨oe, od, J⟩ := x.inst I
  exact PySem.W.kia_one (kit_own T) I.kIn J e (fun z => nomatch z) fun tk => ⟨.bl b, H, I.tok tk, rfl, q⟩
/-- e.f of such an exception -/
def tXv (K : PySem.W.Frag) (f : Str) (te : TE) : TE := fun σ H Q => te σ H fun y H1 => ∃ (a C : Addr) (fs : List (Str × V)) (v : V), y = .ref a ∧ XAt H1 a C (some fs) ∧ XC K C ∧ PySem.W.findIn K (.ref C) f = some none ∧ fs.lookup f = some v ∧ Q v H1
theorem pe_xv {e : Expr} {te : TE} {pos : Pos} {n : Str} (he : PE X e te) (hb : attributeBase e n X.env (eval e X.env) = eval e X.env := by rfl) : PE X (.Attribute e n pos) (tXv X.K n te) := by
  refine ⟨fun pins s σ H Q I h => attr_of hb (thn (he.run pins s σ H _ I h) fun u s1 ⟨y, H1, I1, ry, a, C, fs, v, ey, xa, T, hno, hl, q⟩ => ?_)⟩
  subst ey
  obtain rfl : u = Value.ref a := ry
  obtain ⟨d, h1, h2⟩ := xa
  obtain ⟨t1, e1⟩ := exo_at I1.hok h1
  obtain ⟨mA, hn, rel⟩ := exd_at I1.hok h2
  obtain ⟨od, eo, lk⟩ := lookIn_ns hn
  obtain ⟨v', hu, ru⟩ := RelO.some_of (v := v) (o := mA n) (by rw [← hl]; exact rel n)
  exact HandSPX.exc_get (ox := { cls := .ref C, dict := some d, data := .fields #[.ref t1, .none, .none, .none, .bool false, .none] }) (od := some od) I1.kIn ⟨e1, rfl, rfl, eo⟩ T.ga T.gg T.sb (PySem.W.findObj_own T.hd hno rfl (by rw [lk, hu])) (handed_of ru) ⟨v, H1, I1.tok _, ru, q⟩
/-- C(e, ..), as a value, its own __init__ keeping sp -/
def tMkV (C : Addr) (sp : Sp) (ta : TA) : TE := fun σ H Q => ta σ H fun vs H1 => vs.length ≤ 1000 ∧ ∀ a, H1 a = none → sp (.ref a :: vs) (upd H1 a (exo a C none)) (fun v H2 => v = .non ∧ Q (.ref a) H2) E0
theorem pe_mkv {x : Str} {C fI : Addr} {k : Nat} {fd : FuncData} {ps : List Str} {sp : Sp} {e : Expr} {es : List Expr} {ta : TA} {p pos : Pos} (T : OexC X.K C) (iC : PySem.W.findIn X.K (.ref C) "__init__" = some (some (.ref fI))) (tI : PySem.W.typeIn X.K (.ref fI) = some (.type "function"))
    (F : FnOk X.prog X.w X.K X.mg X.base CX0 k fI fd ps sp) (hr : Room (k + 1) X.A) (hb : Binds X.K fd ps []) (hg : Gl X x) (hm : X.mg x = some (.ref C)) (ha : PA X (e :: es) ta)
    (hdb : (x == ("__debug__" : Str)) = false := by decide) (he : starEach (e :: es) X.env = (false, eval e X.env) :: starEach es X.env := by rfl) (hpl : (backTo pos (starEach es X.env)).any (·.1) = false := by rfl) :
    PE X (.Call (.Name x p) (e :: es) [] pos) (tMkV C sp ta) := by
  refine ⟨fun pins s σ H Q I h => wpAny_Call_Name_kw (ld_glob I hg hm ?_ hdb)⟩
  obtain ⟨nm, q, N, bs, bm, sn, sub, ab, col, dd, k0, k1, k2, k3, k5, hC, hbm⟩ := T.cls
  refine PySem.W.callWith_K (h₀ := X.base) I.ok.mod.kin T.kC (thn (ha.run pos pins s σ H _ I h) fun us s1 ⟨vs, H1, I1, rv, hz, g⟩ => ⟨I1.kIn, ?_⟩) he hpl
  show wpAny _ _ (call (.ref C) us) _ _ _
  obtain ⟨hp, gs, dr, tk, os⟩ := s1
  have new : H1 (hp.objs.size + 1) = none := I1.hok.fresh (Nat.le_succ _)
  have g := g (hp.objs.size + 1) new
  let h2 := (hp.push (PySem.W.kdv_tup us)).push (PySem.HandSPX.excO C hp.objs.size)
  have at2 : h2.get? (hp.objs.size + 1) = some (PySem.HandSPX.excO C hp.objs.size) := by
    show ((hp.push (PySem.W.kdv_tup us)).push (PySem.HandSPX.excO C hp.objs.size)).get? (hp.objs.size + 1) = _
    heap_get
  have I2 : Inv X pins σ (upd H1 (hp.objs.size + 1) (exo (hp.objs.size + 1) C none)) ⟨h2, gs, dr, tk, os⟩ :=
    I1.laid (t' := tk) (a := hp.objs.size + 1) (h' := h2) (fun b o z => Heap.get?_push_of_some _ (Heap.get?_push_of_some _ z)) (Nat.le_succ _) (exo_ok at2)
  have r2 : Vals (V.ref (hp.objs.size + 1) :: vs) (Value.ref (hp.objs.size + 1) :: us) := .cons rfl rv
  have ln : (Value.ref (hp.objs.size + 1) :: us ++ []).length = ps.length := by
    rw [List.append_nil, ← r2.length]
    exact F.len _ _ _ _ g
  have hus : us.length ≤ sizeLine := by
    rw [← Paired.length rv, sizeLine_eq]
    omega
  have bd := hb ⟨h2, gs, dr, tk, os⟩ (Value.ref (hp.objs.size + 1) :: us) I2.kIn ln
  rw [List.append_nil] at bd
  refine wpAny_call (PySem.HandSPX.call_own PySem.F.excBase_ValueError (fun Y => PySem.HandSPX.refsVE_contains Y bm hbm) (I1.kIn _ _ hC) (PySem.W.looks_findIn I1.kIn iC) (fun self => PySem.W.bind_fn I1.kIn self tI) hus ?_)
  refine codeAny_mono (F.run _ X.stack _ _ _ _ _ _ E0 (hr.make C us []) (I2.env0.make C us []) bd r2 g) fun r s' z => ?_
  match r, z with
  | .error er, z => exact z.elim
  | .ok .next, z => exact z.elim
  | .ok .brk, z => exact z.elim
  | .ok .cont, z => exact z.elim
  | .ok (.ret u), ⟨v, H2, o2, b2, un2, ok2, ru, ev, q2⟩ =>
    subst ev
    refine ⟨ru, ?_⟩
    exact I2.after ⟨.ref (hp.objs.size + 1), H2, o2, b2, un2, ok2, rfl, q2⟩
/-- C(), a class without an __init__ of its own -/
theorem pe_mk0 {x : Str} {C : Addr} {p pos : Pos} (q : PySem.W.excIn X.K C [.type "ValueError", .type "Exception", .type "BaseException", .type "object"] "ValueError.__new__" = true) (kC : PySem.W.keepIn X.K (.ref C) = true) (hg : Gl X x) (hm : X.mg x = some (.ref C))
    (hdb : (x == ("__debug__" : Str)) = false := by decide) : PE X (.Call (.Name x p) [] [] pos) (fun _ H Q => ∀ a, H a = none → Q (.ref a) (upd H a (ExO (.ref C) a))) := by
  refine ⟨fun pins s σ H Q I h => wpAny_Call_Name_kw (ld_glob I hg hm (PySem.W.callWith_K0 I.kIn kC ?_) hdb)⟩
  obtain ⟨hp, gs, dr, tk, os⟩ := s
  obtain ⟨bm, N, nm, qn, bs, hdct, sn, sub, ab, col, dd, k0, k1, k2, k3, k5, mN, hC, hN, hni, T⟩ := exc_obj I.kIn q
  refine wpAny_call_exc_subT PySem.F.excBase_ValueError T hC hN hni (fun h' a M => ?_) (by rw [sizeLine_eq]; decide)
  have n : H a = none := I.hok.gone M.new
  obtain ⟨t, e, _, _⟩ := M.there
  exact ⟨.ref a, upd H a (ExO (.ref C) a), I.laidN M.keeps M.new n (exO_ok e ⟨rfl, rfl⟩ rfl rfl rfl (by show 4 < 6; decide)), rfl, h a n⟩
end
end Vf
namespace Vf
open PySem PySem.Spec PyProof.Rows L2
def xcB (K : PySem.W.Frag) (D : Addr) : Bool :=
  decide (PySem.W.findIn K (.ref D) "__getattribute__" = some (some (.builtin "BaseException.__getattribute__"))) && (decide (PySem.W.findIn K (.ref D) "__getattr__" = some none) && (decide (PySem.W.subIn K (.ref D) (.type "BaseException") = some true) &&
  (PySem.W.hasDictIn K D && (decide (PySem.W.findIn K (.ref D) "__class__" = some (some (.builtin "object.__class__"))) && (decide (PySem.W.specialIn K (.builtin "object.__class__") "__get__" = some (some (.builtin "getset_descriptor.__get__"))) &&
  (decide (PySem.W.takesIn K (.builtin "object.__class__") = some true) && decide (PySem.W.mroIn K D (.type "object") = some true)))))))
theorem xcB_ok {K : PySem.W.Frag} {D : Addr} (h : xcB K D = true) : XC K D := by
  obtain ⟨h1, h⟩ := Bool.and_eq_true_iff.mp h
  obtain ⟨h2, h⟩ := Bool.and_eq_true_iff.mp h
  obtain ⟨h3, h⟩ := Bool.and_eq_true_iff.mp h
  obtain ⟨h4, h⟩ := Bool.and_eq_true_iff.mp h
  obtain ⟨h5, h⟩ := Bool.and_eq_true_iff.mp h
  obtain ⟨h6, h⟩ := Bool.and_eq_true_iff.mp h
  obtain ⟨h7, h8⟩ := Bool.and_eq_true_iff.mp h
  exact ⟨of_decide_eq_true h1, of_decide_eq_true h2, of_decide_eq_true h3, h4, of_decide_eq_true h5, of_decide_eq_true h6, of_decide_eq_true h7, of_decide_eq_true h8⟩
end Vf

set_option maxRecDepth 100000
set_option maxHeartbeats 4000000
/-! sizes of texts of data; walks -/
namespace Vf
open PySem PySem.Spec PyProof.Rows L2
/-- good data: shallow, shown in few signs -/
structure Gd (d : PyData) : Prop where
  sh : d.showable = true
  dp : d.depth ≤ 10
  ln : d.shown.length ≤ 100000
theorem gd_none : Gd .none := ⟨rfl, by decide, by simp only [PyData.shown]; decide⟩
theorem gd_bool (b : Bool) : Gd (.bool b) := ⟨rfl, by simp [PyData.depth], by cases b <;> (simp only [PyData.shown]; decide)⟩
theorem log_small {z : Int} (h : z.natAbs < 2 ^ 1920) : z.natAbs.log2 < 1920 := by
  by_cases e : z.natAbs = 0
  · rw [e]
    decide
  · exact (Nat.log2_lt e).mpr h
theorem gd_int {z : Int} (h : z.natAbs < 2 ^ 1920) : Gd (.int z) := by
  have l := log_small h
  refine ⟨by simp only [PyData.showable, l, decide_true], by simp [PyData.depth], ?_⟩
  simp only [PyData.shown]
  exact Nat.le_trans (int_text_len_1921 l) (by decide)
theorem gd_str {x : Str} (h : ∀ c ∈ x.cps.toList, c < 16 ^ 8) (hl : x.length ≤ 9000) : Gd (.str x) := by
  refine ⟨rfl, by simp [PyData.depth], ?_⟩
  simp only [PyData.shown]
  have q := StrLaws.reprText_len x h
  omega
theorem int_codes (z : Int) : ∀ c ∈ (Str.ofString (toString z)).cps.toList, c < 16 ^ 8 := fun c h => by
  by_cases e : c < 58
  · have : (58 : Nat) < 16 ^ 8 := by decide
    omega
  · exact absurd h (int_text_free' c ⟨by omega, by omega⟩ z)
theorem sum_le_of {l : List Nat} {m : Nat} (h : ∀ x ∈ l, x ≤ m) : l.sum ≤ l.length * m := by
  induction l with
  | nil => simp
  | cons a r ih =>
    have h1 := h a (List.mem_cons_self ..)
    have h2 := ih fun x hx => h x (List.mem_cons_of_mem _ hx)
    rw [List.sum_cons, List.length_cons, Nat.add_mul]
    omega
theorem shownAll_map : ∀ ds : List PyData, PyData.shownAll ds = ds.map PyData.shown
  | [] => by simp only [PyData.shownAll, List.map_nil]
  | d :: r => by simp only [PyData.shownAll, List.map_cons, shownAll_map r]
theorem showableAll_of : ∀ {ds : List PyData}, (∀ d ∈ ds, d.showable = true) → PyData.showableAll ds = true
  | [], _ => by simp only [PyData.showableAll]
  | d :: r, h => by
    simp only [PyData.showableAll, h d (List.mem_cons_self ..), showableAll_of fun x hx => h x (List.mem_cons_of_mem _ hx), Bool.and_self]
theorem depthAll_of {m : Nat} : ∀ {ds : List PyData}, (∀ d ∈ ds, d.depth ≤ m) → PyData.depthAll ds ≤ m
  | [], _ => by simp only [PyData.depthAll]; exact Nat.zero_le _
  | d :: r, h => by
    simp only [PyData.depthAll]
    exact Nat.max_le.mpr ⟨h d (List.mem_cons_self ..), depthAll_of fun x hx => h x (List.mem_cons_of_mem _ hx)⟩
/-- few data, each shown in at most m signs -/
theorem seq_len {ds : List PyData} {m : Nat} (h : ∀ d ∈ ds, d.shown.length ≤ m) : (((PyData.shownAll ds).map (·.length)).sum ≤ ds.length * m) ∧ (PyData.shownAll ds).length = ds.length := by
  rw [shownAll_map]
  refine ⟨?_, by rw [List.length_map]⟩
  have q := sum_le_of (l := ((ds.map PyData.shown).map (·.length))) (m := m) (fun x hx => by
    obtain ⟨s, hs, e⟩ := List.mem_map.mp hx
    obtain ⟨d, hd, e2⟩ := List.mem_map.mp hs
    rw [← e, ← e2]
    exact h d hd)
  rw [List.length_map, List.length_map] at q
  exact q
theorem small_seq {ds : List PyData} {n m : Nat} (hn : ds.length ≤ n) (h1 : ∀ d ∈ ds, d.showable = true) (h2 : ∀ d ∈ ds, d.depth ≤ 60) (h3 : ∀ d ∈ ds, d.shown.length ≤ m) (hz : n * m + 2 * n + 3 ≤ 16777216) : small (.list ds) ∧ small (.tuple ds) := by
  obtain ⟨a, b⟩ := seq_len h3
  have c : ds.length * m ≤ n * m := Nat.mul_le_mul_right _ hn
  have d1 := depthAll_of h2
  refine ⟨⟨by simp only [PyData.showable]; exact showableAll_of h1, by simp only [PyData.depth]; omega, ?_⟩, by simp only [PyData.showable]; exact showableAll_of h1, by simp only [PyData.depth]; omega, ?_⟩
  · simp only [PyData.shown]
    have q := listText_len_le (PyData.shownAll ds)
    rw [sizeLine_eq]
    omega
  · simp only [PyData.shown]
    have q := tupleText_len_le (PyData.shownAll ds)
    rw [sizeLine_eq]
    omega
theorem gd_seq {ds : List PyData} {n m : Nat} (hn : ds.length ≤ n) (h1 : ∀ d ∈ ds, d.showable = true) (h2 : ∀ d ∈ ds, d.depth ≤ 9) (h3 : ∀ d ∈ ds, d.shown.length ≤ m) (hz : n * m + 2 * n + 3 ≤ 100000) : Gd (.list ds) ∧ Gd (.tuple ds) := by
  obtain ⟨a, b⟩ := seq_len h3
  have c : ds.length * m ≤ n * m := Nat.mul_le_mul_right _ hn
  have d1 := depthAll_of h2
  refine ⟨⟨by simp only [PyData.showable]; exact showableAll_of h1, by simp only [PyData.depth]; omega, ?_⟩, by simp only [PyData.showable]; exact showableAll_of h1, by simp only [PyData.depth]; omega, ?_⟩
  · simp only [PyData.shown]
    have q := listText_len_le (PyData.shownAll ds)
    omega
  · simp only [PyData.shown]
    have q := tupleText_len_le (PyData.shownAll ds)
    omega
theorem small_of_gd {ds : List PyData} (hn : ds.length ≤ 100) (h : ∀ d ∈ ds, Gd d) : small (.list ds) ∧ small (.tuple ds) :=
  small_seq hn (fun d hd => (h d hd).sh) (fun d hd => Nat.le_trans (h d hd).dp (by decide)) (fun d hd => (h d hd).ln) (by decide)
theorem Gd.small {d : PyData} (h : Gd d) : small d := ⟨h.sh, Nat.le_trans h.dp (by decide), Nat.le_trans h.ln (by rw [sizeLine_eq]; decide)⟩
theorem gd_dict1 {x : Str} {z : Int} (hx : ∀ c ∈ x.cps.toList, c < 16 ^ 8) (hl : x.length ≤ 1000) (h : z.natAbs < 2 ^ 1920) : Gd (.dict [(.str x, .int z)]) := by
  have l := log_small h
  refine ⟨by simp only [PyData.showable, PyData.showableKv, l, decide_true, Bool.and_self], by simp only [PyData.depth, PyData.depthKv]; decide, ?_⟩
  simp only [PyData.shown, PyData.shownKv]
  have q := dictText_len_le [reprText x ++ ": " ++ (Str.ofString (toString z))]
  have r := StrLaws.reprText_len x hx
  have s := int_text_len_1921 l
  simp only [List.map_cons, List.map_nil, List.sum_cons, List.sum_nil, List.length_cons, List.length_nil, strLen_append] at q
  have t : (Str.ofString ": ").length = 2 := by decide +kernel
  refine Nat.le_trans q ?_
  have t2 : ((": " : String) : Str).length = 2 := t
  omega

/-- for i, x in enumerate(a list) -/
theorem for_enumL {K : PySem.W.Frag} {a : Addr} {xs : List V} {g : TG} {tb : TS} {D : Ends} {σ : L2.St} {H : Hp} (Pv : Nat → L2.St → Hp → Prop) (h0 : Pv 0 σ H) (hq : ∀ i σ H, Pv i σ H → SqL K H a xs)
    (hs : ∀ (i : Nat) (x : V) (T : Addr) (σ : L2.St) (H : Hp), xs[i]? = some x → Pv i σ H → H T = none → g (.ref T) σ (upd H T (.tup [.int (i : Nat), x])) fun σ2 H2 => tb { D with nx := Pv (i + 1), ct := Pv (i + 1), bk := D.nx } σ2 H2) (hd : ∀ σ H, Pv xs.length σ H → D.nx σ H) :
    ∃ W : Nat → Nat → L2.St → Hp → Prop, (∃ m, W 0 m σ H) ∧ ∀ i m σ H, W i m σ H →
      ((Ite K a).stop i H ∧ D.nx σ H) ∨ ((Ite K a).go i H ∧ ∃ N : L2.St → Hp → Prop, (∀ σ' H', N σ' H' → ∃ m', m' < m ∧ W (i + 1) m' σ' H') ∧ ∀ v H', (Ite K a).yld i H v H' → g v σ H' fun σ2 H2 => tb { D with nx := N, ct := N, bk := D.nx } σ2 H2) := by
  refine ⟨fun i m σ H => m + i = xs.length ∧ Pv i σ H, ⟨xs.length, rfl, h0⟩, fun i m σ H ⟨e, p⟩ => ?_⟩
  have q := hq i σ H p
  match m, e with
  | 0, e =>
    have e2 : i = xs.length := by omega
    rw [e2] at p ⊢
    exact .inl ⟨⟨xs, q, Nat.le_refl _⟩, hd σ H p⟩
  | m + 1, e =>
    have lt : i < xs.length := by omega
    refine .inr ⟨⟨xs, xs[i], q, List.getElem?_eq_getElem lt⟩, Pv (i + 1), fun σ' H' p' => ⟨m, Nat.lt_succ_self m, by omega, p'⟩, fun v H' y => ?_⟩
    obtain ⟨T, x, e1, n, e2, hx⟩ := y
    rw [e1, e2]
    exact hs i x T σ H (hx xs q) p n
end Vf

set_option maxRecDepth 100000
set_option maxHeartbeats 4000000
/-! rules: several clauses with a name each; // by any great int -/
namespace Vf
open PySem PySem.Spec PyProof.Rows L2
/-- what each clause «except c as n» wishes, n in slot i, from the first one on -/
def wEach (K : PySem.W.Frag) (i : Nat) (Wo : WX) (D : Ends) : List (Value × (Addr → Value → Option Addr → TS)) → WX
  | [] => Wo
  | (c, ts) :: r => wAs K c i ts (wEach K i Wo D r) D
inductive Each (X : Cx) (i : Nat) : List ExceptHandler → List (Value × (Addr → Value → Option Addr → TS)) → Prop
  | nil : Each X i [] []
  | cons {x n : Str} {c : Value} {ts : Addr → Value → Option Addr → TS} {b : Stmt} {bs : List Stmt} {p q : Pos} {hds : List ExceptHandler} {l : List (Value × (Addr → Value → Option Addr → TS))} (nm : Names X x c) (at_ : X.N[i]? = some n) (lo : X.env.kindOf n = some .local)
      (su : ∀ (a : Addr) (oe : Obj) (cls : Value) (d : Option Addr) (pn : List (Addr × Obj)), Zc cls d oe → (∃ vs, oe.data = .fields vs) → PSs (X.suite a ((a, oe) :: pn)) (b :: bs) (ts a cls d)) (t : Each X i hds l) :
      Each X i (.ExceptHandler (some (.Name x p)) (some n) (b :: bs) q :: hds) ((c, ts) :: l)
section
variable {X : Cx} {i : Nat} {body : List Stmt} {h1 : ExceptHandler} {hs : List ExceptHandler} {l : List (Value × (Addr → Value → Option Addr → TS))} {pos : Pos} {tb : WX → TS} {Wo : WX}
/-- try: body / except .. as n: .. / except .. as n: .. -/
theorem ps_try_each (st : X.stack = X.env :: X.outer) (fr : X.env.frame = some X.env.locals) (nd : X.N.Nodup) (tk : Takes X Wo)
    (bd : ∀ (W : WX) (pn : List (Addr × Obj)) (xe : Value → Shared → Prop), Takes (X.tr pn xe) W → PassesOwn (model X.prog X.w) X.A X.env xe → PSs (X.tr pn xe) body (tb W)) (hd : Each X i (h1 :: hs) l) :
    PS X (.Try body (h1 :: hs) [] [] pos) (fun D σ H => tb (wEach X.K i Wo D l) D σ H) := by
  refine ⟨fun pins s σ H D I h => wpAny_Try_except ?_⟩
  have ok := I.ok
  have A1 : X.A.frames = some (X.env :: X.outer) := ok.frames.trans (congrArg some st)
  have run := (bd (wEach X.K i Wo D l) (X.pn ++ pins) (fun e s1 => wpAny (model X.prog X.w) X.A (noteFrame e X.env) (fun _ s2 => wpAny (model X.prog X.w) X.A (setFlight e none) (fun _ s3 => wpAny (model X.prog X.w) X.A (handleBy e X.env (h1 :: hs)) (SP X pins D) X.xe s3) X.xe s2) X.xe s1)
    (fun u s' xx => ?_) PassesOwn.looking).run [] s σ H D (I.toTry _) h
  · refine wpAny_mono run (fun f s1 z => ?_) fun e s1 z => z
    match f, z with
    | .next, ⟨σ', H', J, q⟩ => exact wpAny_execs_nil ⟨σ', H', J.ofTry ok, q⟩
    | .brk, ⟨σ', H', J, q⟩ => exact ⟨σ', H', J.ofTry ok, q⟩
    | .cont, ⟨σ', H', J, q⟩ => exact ⟨σ', H', J.ofTry ok, q⟩
    | .ret u, ⟨v, σ', H', J, r, q⟩ => exact ⟨v, σ', H', J.ofTry ok, r, q⟩
  · obtain ⟨a, B, sI, pins', σ1, H1, cls, d, ea, J', nb, up, sky, na, os, ag, w⟩ := xx
    subst ea
    have J : Inv X pins σ1 H1 sI := J'.ofTry ok
    rw [st] at sky
    show wpAny (model X.prog X.w) X.A (noteFrame (.ref a) X.env) _ _ _
    refine Sky.land Zc.steady A1 fr sky fun h3 fl up3 => ?_
    have J3 : Inv X pins σ1 H1 { s' with heap := h3 } := J.landed nb fl.1 (up.trans up3) os ag
    obtain ⟨oe, vs, he, hz, hdt⟩ := fl.there
    have out : a ∉ frs (X.env :: X.outer) := fun m => by
      obtain ⟨_, o2, e2, ne⟩ := fl.2.2.1.mem m
      rw [he] at e2
      cases e2
      exact ne _ hdt
    have notL : a ≠ X.env.locals := fun z => out (List.mem_filterMap.mpr ⟨X.env, List.mem_cons_self, by rw [fr, z]⟩)
    have notF : a ∉ X.fs := fun m => by
      obtain ⟨e, he, q⟩ := List.mem_filterMap.mp m
      exact out (List.mem_filterMap.mpr ⟨e, List.mem_cons_of_mem _ he, q⟩)
    have S3 := J3.suite he hdt na notL notF
    have ty : PySem.W.Looks (model X.prog X.w) h3 (typeOf (.ref a)) cls := fun A Q E s k q => wpAny_typeOf_ref (k _ _ he) (by rw [hz.1]; exact q)
    have each : ∀ (hs2 : List ExceptHandler) (l2 : List (Value × (Addr → Value → Option Addr → TS))), Each X i hs2 l2 → wEach X.K i Wo D l2 cls d σ1 H1 → wpAny (model X.prog X.w) X.A (handleBy (.ref a) X.env hs2) (SP X pins D) X.xe { s' with heap := h3 } := by
      intro hs2 l2 hk
      induction hk with
      | nil =>
        intro wo
        refine wpAny_handleBy_nil ?_
        obtain ⟨_, _, _, o2, v2, T2, oT2, t2, g1, g2, g3, g4, g5⟩ := id fl
        unfold PySem.passOn
        refine wpAny_bind (wpAny_field g1 g3 g4 ?_)
        rw [if_neg (show ¬ ((Value.ref T2 == Value.none) = true) from by simp)]
        have last : wpAny (model X.prog X.w) X.A (setFlight (.ref a) X.env.frame) (fun _ s4 => wpAny (model X.prog X.w) X.A (throw (.ref a) : Sem Flow) (SP X pins D) X.xe s4) X.xe { s' with heap := h3 } := by
          rw [fr]
          refine HandSPX.setFlight_upZ fl fun h4 up4 u4 => wpAny_throw (tk _ _ ⟨a, B, sI, pins, σ1, H1, cls, d, rfl, J, nb, (up.trans up3).trans u4, .inr (.inr (by rw [st]; exact up4)), na, os, ag, wo⟩)
        first
          | exact wpAny_bind (wpAny_pure (wpAny_bind last))
          | exact wpAny_bind last
      | @cons x n c ts b bs p q hds l3 nm at_ lo su t ih =>
        intro wo
        obtain ⟨k, hk, yes, no⟩ := wo
        refine wpAny_handleBy_cons (codeAny_handlers_test ?_) (by intro q; cases q)
        have LM := PySem.W.exm_one (M := model X.prog X.w) (J3.kIn) ty hk
        have see : ∀ {Q : Value → Shared → Prop} {E : Value → Shared → Prop}, Q c { s' with heap := h3 } → wpAny (model X.prog X.w) (X.A.mark (some (.ref a))) (eval (.Name x p) X.env) Q E { s' with heap := h3 } := by
          intro Q E q
          obtain ⟨g1, g2, g3 | ⟨g3, g4, g5⟩⟩ := nm
          · exact ld_glob (X := X.suite a ((a, oe) :: (X.pn ++ pins))) S3 g1 g3 q g2
          · exact ld_blt (X := X.suite a ((a, oe) :: (X.pn ++ pins))) S3 g1 g3 g4 q g5 g2
        refine see (LM.here ?_)
        cases k with
        | false =>
          show wpAny _ X.A (handleBy (.ref a) X.env hds) _ _ _
          exact ih (no rfl)
        | true =>
          refine codeAny_handlers_suite_as (HandSPX.lands_againZ fl fun h4 fl4 up4 => ?_)
          have J4 : Inv X pins σ1 H1 { s' with heap := h4 } := J.landed nb fl4.1 ((up.trans up3).trans up4) os ag
          obtain ⟨o4, v4, e4, z4, d4⟩ := fl4.there
          have S4 := J4.suite e4 d4 na notL notF
          refine store_ok (X := X.suite a ((a, o4) :: (X.pn ++ pins))) (v := .ref a) S4 nd at_ (.inl lo) rfl (fun s5 S5 => ?_) (.inr lo)
          refine wpAny_mono ((su a o4 cls d (X.pn ++ pins) z4 ⟨_, d4⟩).run [] s5 _ H1 _ S5 (yes rfl a na)) (fun f s6 z => ?_) (fun _ _ z => False.elim z)
          have away : ∀ {σ6 : L2.St} {H6 : Hp} {Q : Shared → Prop}, Inv (X.suite a ((a, o4) :: (X.pn ++ pins))) [] σ6 H6 s6 → (∀ s7, Inv X pins (σ6.set i none) H6 s7 → Q s7) →
              wpAny (model X.prog X.w) X.A (do bindName X.env n .none; unbindBehindTheSuite X.env n q) (fun _ s7 => Q s7) X.xe s6 := fun S6 g => gone_ok (S6.unsuite ok) nd at_ lo g
          match f, z with
          | .next, ⟨σ6, H6, S6, g⟩ => exact away S6 fun s7 J7 => ⟨_, _, J7, g⟩
          | .brk, ⟨σ6, H6, S6, g⟩ => exact away S6 fun s7 J7 => ⟨_, _, J7, g⟩
          | .cont, ⟨σ6, H6, S6, g⟩ => exact away S6 fun s7 J7 => ⟨_, _, J7, g⟩
          | .ret u, ⟨v6, σ6, H6, S6, r6, g⟩ => exact away S6 fun s7 J7 => ⟨_, _, _, J7, r6, g⟩
    exact each _ _ hd w
end
/-- // by an int that is not 0, below 2 ^ 9000 in size -/
def CDivZ (_ j : Int) : Prop := j ≠ 0 ∧ j.natAbs.log2 < 9000
theorem op_fdivZ {X : Cx} : OpR X (binaryOp .FloorDiv) (rI CDivZ fun i j => .int (i.fdiv j)) := opI fun i j _ _ _ _ _ hc q => floordiv_int hc.1 q (.inl (PyProof.noPylong_of_log2 hc.2))
end Vf

/-! ratios: the mathematics -/
namespace Vf
/-- the greatest common divisor, with the sign of the bottom -/
def sg (t b : Int) : Int := if b < 0 then -((Nat.gcd t.natAbs b.natAbs : Nat) : Int) else ((Nat.gcd t.natAbs b.natAbs : Nat) : Int)
/-- in lowest terms -/
def low (t b : Int) : Int × Int := (t.fdiv (sg t b), b.fdiv (sg t b))
theorem fdiv_of_mul {s k : Int} (h : s ≠ 0) : (s * k).fdiv s = k := Int.mul_fdiv_cancel_left k h
theorem gcd_pos {t b : Int} (h : b ≠ 0) : 0 < Nat.gcd t.natAbs b.natAbs := Nat.gcd_pos_of_pos_right _ (by omega)
theorem sg_ne {t b : Int} (h : b ≠ 0) : sg t b ≠ 0 := by
  have g := gcd_pos (t := t) h
  unfold sg
  split <;> omega
/-- t and b are the sign's multiples -/
theorem sg_dvd {t b : Int} (h : b ≠ 0) : ∃ t' b' : Int, t = sg t b * t' ∧ b = sg t b * b' ∧ 0 < b' ∧ Nat.gcd t'.natAbs b'.natAbs = 1 := by
  have g := gcd_pos (t := t) h
  generalize hG : Nat.gcd t.natAbs b.natAbs = G at g
  have d1 : ((G : Nat) : Int) ∣ t := Int.ofNat_dvd_left.mpr (by rw [← hG]; exact Nat.gcd_dvd_left _ _)
  have d2 : ((G : Nat) : Int) ∣ b := Int.ofNat_dvd_left.mpr (by rw [← hG]; exact Nat.gcd_dvd_right _ _)
  obtain ⟨x, hx⟩ := d1
  obtain ⟨y, hy⟩ := d2
  have one : Nat.gcd x.natAbs y.natAbs = 1 := by
    have e1 : t.natAbs = G * x.natAbs := by rw [hx, Int.natAbs_mul, Int.natAbs_natCast]
    have e2 : b.natAbs = G * y.natAbs := by rw [hy, Int.natAbs_mul, Int.natAbs_natCast]
    have e3 : Nat.gcd (G * x.natAbs) (G * y.natAbs) = G * Nat.gcd x.natAbs y.natAbs := Nat.gcd_mul_left _ _ _
    rw [← e1, ← e2, hG] at e3
    have e4 : G * 1 = G * Nat.gcd x.natAbs y.natAbs := by omega
    exact (Nat.eq_of_mul_eq_mul_left g e4).symm
  have gp : (0 : Int) < (G : Int) := by omega
  have sg_e : sg t b = if b < 0 then -(G : Int) else (G : Int) := by unfold sg; rw [hG]
  by_cases hb : b < 0
  · refine ⟨-x, -y, ?_, ?_, ?_, ?_⟩
    · rw [sg_e, if_pos hb, Int.neg_mul_neg]; exact hx
    · rw [sg_e, if_pos hb, Int.neg_mul_neg]; exact hy
    · rw [hy] at hb
      have : y < 0 := by
        rcases Int.lt_or_le y 0 with z | z
        · exact z
        · have := Int.mul_nonneg (Int.le_of_lt gp) z
          omega
      omega
    · rw [Int.natAbs_neg, Int.natAbs_neg]; exact one
  · refine ⟨x, y, ?_, ?_, ?_, one⟩
    · rw [sg_e, if_neg hb]; exact hx
    · rw [sg_e, if_neg hb]; exact hy
    · rcases Int.lt_or_le 0 y with z | z
      · exact z
      · have h2 : (G : Int) * y ≤ 0 := Int.mul_nonpos_of_nonneg_of_nonpos (Int.le_of_lt gp) z
        rw [← hy] at h2
        omega
theorem low_eq {t b t' b' : Int} (h : b ≠ 0) (e1 : t = sg t b * t') (e2 : b = sg t b * b') : low t b = (t', b') := by
  have s := sg_ne (t := t) h
  unfold low
  have a1 : t.fdiv (sg t b) = t' := by
    have z := fdiv_of_mul (s := sg t b) (k := t') s
    rw [← e1] at z
    exact z
  have a2 : b.fdiv (sg t b) = b' := by
    have z := fdiv_of_mul (s := sg t b) (k := b') s
    rw [← e2] at z
    exact z
  rw [a1, a2]
/-- in lowest terms: its bottom is above 0, nothing is common -/
structure Low (t b : Int) : Prop where
  pos : 0 < b
  one : Nat.gcd t.natAbs b.natAbs = 1
theorem low_is {t b : Int} (h : b ≠ 0) : Low (low t b).1 (low t b).2 := by
  obtain ⟨x, y, e1, e2, hp, ho⟩ := sg_dvd (t := t) h
  rw [low_eq h e1 e2]
  exact ⟨hp, ho⟩
theorem low_id {t b : Int} (h : Low t b) : low t b = (t, b) := by
  have hb : b ≠ 0 := by have := h.pos; omega
  have e : sg t b = 1 := by unfold sg; rw [h.one, if_neg (by have := h.pos; omega)]; rfl
  exact low_eq hb (by rw [e, Int.one_mul]) (by rw [e, Int.one_mul])
theorem sg_scale {t b k : Int} (hk : 0 < k) : sg (t * k) (b * k) = sg t b * k := by
  have e : Nat.gcd (t * k).natAbs (b * k).natAbs = Nat.gcd t.natAbs b.natAbs * k.natAbs := by
    rw [Int.natAbs_mul, Int.natAbs_mul, Nat.gcd_mul_right]
  have ek : ((k.natAbs : Nat) : Int) = k := by omega
  unfold sg
  rw [e]
  by_cases hb : b < 0
  · have : b * k < 0 := Int.mul_neg_of_neg_of_pos hb hk
    rw [if_pos hb, if_pos this, Int.natCast_mul, ek, Int.neg_mul]
  · have : ¬ b * k < 0 := by
      have := Int.mul_nonneg (show (0 : Int) ≤ b by omega) (Int.le_of_lt hk)
      omega
    rw [if_neg hb, if_neg this, Int.natCast_mul, ek]
theorem low_scale {t b k : Int} (h : b ≠ 0) (hk : 0 < k) : low (t * k) (b * k) = low t b := by
  obtain ⟨x, y, e1, e2, _, _⟩ := sg_dvd (t := t) h
  have hbk : b * k ≠ 0 := Int.mul_ne_zero h (by omega)
  rw [low_eq h e1 e2]
  refine low_eq hbk ?_ ?_
  · rw [sg_scale hk, Int.mul_assoc, Int.mul_comm k x, ← Int.mul_assoc, ← e1]
  · rw [sg_scale hk, Int.mul_assoc, Int.mul_comm k y, ← Int.mul_assoc, ← e2]
/-- a ratio k times over is the ratio -/
theorem low_back {t b k : Int} (h : Low t b) (hk : 0 < k) : low (t * k) (b * k) = (t, b) := by
  rw [low_scale (by have := h.pos; omega) hk, low_id h]
theorem low_size {t b : Int} (h : b ≠ 0) : (low t b).1.natAbs ≤ t.natAbs ∧ (low t b).2.natAbs ≤ b.natAbs := by
  obtain ⟨x, y, e1, e2, _, _⟩ := sg_dvd (t := t) h
  rw [low_eq h e1 e2]
  have s : 0 < (sg t b).natAbs := by have := sg_ne (t := t) h; omega
  have a1 : t.natAbs = (sg t b).natAbs * x.natAbs := by rw [← Int.natAbs_mul, ← e1]
  have a2 : b.natAbs = (sg t b).natAbs * y.natAbs := by rw [← Int.natAbs_mul, ← e2]
  rw [a1, a2]
  exact ⟨Nat.le_mul_of_pos_left _ s, Nat.le_mul_of_pos_left _ s⟩
theorem low_val {t b : Int} (h : b ≠ 0) : t * (low t b).2 = (low t b).1 * b := by
  obtain ⟨x, y, e1, e2, _, _⟩ := sg_dvd (t := t) h
  rw [low_eq h e1 e2]
  generalize sg t b = s at e1 e2
  rw [e1, e2]
  show s * x * y = x * (s * y)
  rw [Int.mul_comm s x, Int.mul_assoc]
theorem sg_size {t b : Int} (h : b ≠ 0) : (sg t b).natAbs ≤ b.natAbs := by
  have e : (sg t b).natAbs = Nat.gcd t.natAbs b.natAbs := by
    unfold sg
    split
    · rw [Int.natAbs_neg, Int.natAbs_natCast]
    · rw [Int.natAbs_natCast]
  rw [e]
  exact Nat.le_of_dvd (by omega) (Nat.gcd_dvd_right _ _)
/-- Euclid's laps: what holds ahead of the i-th -/
structure Lap (G P : Nat) (i : Nat) (a b : Int) : Prop where
  a0 : 0 ≤ a
  b0 : 0 ≤ b
  g : Nat.gcd a.natAbs b.natAbs = G
  le : i = 0 ∨ b ≤ a
  sm : a.natAbs * b.natAbs * 2 ^ (i - 1) ≤ P
theorem lap0 (x y : Int) : Lap (Nat.gcd x.natAbs y.natAbs) (x.natAbs * y.natAbs) 0 (if x < 0 then -x else x) (if y < 0 then -y else y) := by
  have e : ∀ z : Int, (if z < 0 then -z else z) = ((z.natAbs : Nat) : Int) := fun z => by split <;> omega
  rw [e, e]
  exact ⟨by omega, by omega, by rw [Int.natAbs_natCast, Int.natAbs_natCast], .inl rfl, by rw [Int.natAbs_natCast, Int.natAbs_natCast]; simp⟩
theorem lap_next {G P i : Nat} {a b : Int} (h : Lap G P i a b) (hb : b ≠ 0) : Lap G P (i + 1) b (a % b) := by
  have b1 : 0 < b := by have := h.b0; omega
  have r0 := Int.emod_nonneg a hb
  have r1 := Int.emod_lt_of_pos a b1
  obtain ⟨x, rfl⟩ := Int.eq_ofNat_of_zero_le h.a0
  obtain ⟨y, rfl⟩ := Int.eq_ofNat_of_zero_le h.b0
  have em : ((x : Int) % (y : Int)) = ((x % y : Nat) : Int) := by omega
  refine ⟨by omega, r0, ?_, .inr (by omega), ?_⟩
  · rw [em, Int.natAbs_natCast, Int.natAbs_natCast]
    have g := h.g
    rw [Int.natAbs_natCast, Int.natAbs_natCast] at g
    rw [Nat.gcd_comm, ← Nat.gcd_rec, Nat.gcd_comm]
    exact g
  · have s := h.sm
    rw [em]
    rw [Int.natAbs_natCast, Int.natAbs_natCast] at s ⊢
    rw [Nat.add_sub_cancel]
    have y1 : 0 < y := by omega
    rcases h.le with z | z
    · rw [z] at s ⊢
      simp only [Nat.zero_sub, Nat.pow_zero, Nat.mul_one] at s ⊢
      have : x % y ≤ x := Nat.mod_le _ _
      calc y * (x % y) ≤ y * x := Nat.mul_le_mul_left _ this
        _ = x * y := Nat.mul_comm _ _
        _ ≤ P := s
    · have hxy : y ≤ x := by omega
      have hm : 2 * (x % y) ≤ x := by
        have q := Nat.div_add_mod x y
        have q1 : 1 ≤ x / y := (Nat.le_div_iff_mul_le y1).mpr (by omega)
        have q2 : y * 1 ≤ y * (x / y) := Nat.mul_le_mul_left _ q1
        have q3 := Nat.mod_lt x y1
        omega
      by_cases hi : i = 0
      · rw [hi] at s ⊢
        simp only [Nat.zero_sub, Nat.pow_zero, Nat.mul_one] at s ⊢
        have : x % y ≤ x := Nat.mod_le _ _
        calc y * (x % y) ≤ y * x := Nat.mul_le_mul_left _ this
          _ = x * y := Nat.mul_comm _ _
          _ ≤ P := s
      · have ei : 2 ^ i = 2 * 2 ^ (i - 1) := by
          have : i = (i - 1) + 1 := by omega
          rw [this, Nat.pow_succ, Nat.add_sub_cancel, Nat.mul_comm]
        rw [ei]
        calc y * (x % y) * (2 * 2 ^ (i - 1)) = (2 * (x % y)) * (y * 2 ^ (i - 1)) := by
              rw [Nat.mul_comm y (x % y), Nat.mul_assoc, Nat.mul_left_comm y 2, ← Nat.mul_assoc (x % y) 2, Nat.mul_comm (x % y) 2]
          _ ≤ x * (y * 2 ^ (i - 1)) := Nat.mul_le_mul_right _ hm
          _ = x * y * 2 ^ (i - 1) := by rw [Nat.mul_assoc]
          _ ≤ P := s
theorem lap_end {G P i : Nat} {a b : Int} (h : Lap G P i a b) (hb : b = 0) : a = ((G : Nat) : Int) := by
  have g := h.g
  rw [hb] at g
  have e : Nat.gcd a.natAbs (0 : Int).natAbs = a.natAbs := Nat.gcd_zero_right _
  rw [e] at g
  have := h.a0
  omega
theorem lap_over {G P : Nat} {i : Nat} {a b : Int} (h : Lap G P i a b) (hi : 0 < i) (hP : P < 2 ^ (i - 1)) : b = 0 := by
  have s := h.sm
  have l : b ≤ a := by rcases h.le with z | z <;> omega
  rcases Nat.eq_zero_or_pos (a.natAbs * b.natAbs) with z | z
  · rcases Nat.mul_eq_zero.mp z with z | z
    · have := h.b0; omega
    · omega
  · have : 1 * 2 ^ (i - 1) ≤ a.natAbs * b.natAbs * 2 ^ (i - 1) := Nat.mul_le_mul_right _ z
    omega
end Vf

set_option maxRecDepth 100000
set_option maxHeartbeats 8000000
namespace Vf
open PySem PySem.Spec PyProof.Rows L2
def topS (i : Nat) : Stmt := PySem.Challenge.pw_nearcurves_k76_whole_programs_read.main.body.getD i (.Pass ⟨0, 0, 0, 0⟩)
/-! ### the pen -/
def penL (l : Addr) (at_ dg ct fo : Int) : List (Key × V) := [(.inr "cells", .ref l), (.inr "at", .int at_), (.inr "digits", .int dg), (.inr "count", .int ct), (.inr "fold", .int fo)]
section
variable {l : Addr} {a d c f x : Int}
theorem pv1 : valV (penL l a d c f) (.inr "cells") = some (.ref l) := by kernel_rfl
theorem pv2 : valV (penL l a d c f) (.inr "at") = some (.int a) := by kernel_rfl
theorem pv3 : valV (penL l a d c f) (.inr "digits") = some (.int d) := by kernel_rfl
theorem pv4 : valV (penL l a d c f) (.inr "count") = some (.int c) := by kernel_rfl
theorem pv5 : valV (penL l a d c f) (.inr "fold") = some (.int f) := by kernel_rfl
theorem pp2 : putK (penL l a d c f) (.inr "at") (.int x) = penL l x d c f := by kernel_rfl
theorem pp3 : putK (penL l a d c f) (.inr "digits") (.int x) = penL l a x c f := by kernel_rfl
theorem pp4 : putK (penL l a d c f) (.inr "count") (.int x) = penL l a d x f := by kernel_rfl
theorem pp5 : putK (penL l a d c f) (.inr "fold") (.int x) = penL l a d c x := by kernel_rfl
theorem pm : mergeK [] [(.inr "cells", .ref l), (.inr "at", .int 0), (.inr "digits", .int 0), (.inr "count", .int 0), (.inr "fold", .int f)] = penL l 0 0 0 f := by kernel_rfl
end
/-- a pen at p that has been asked at most B times -/
structure PenC (at_ dg ct fo B : Int) : Prop where
  a0 : 0 ≤ at_
  d0 : 0 ≤ dg
  c0 : 0 ≤ ct
  cB : ct ≤ B
  f0 : 0 ≤ fo
  f1 : fo < 2147483587
def PenAt (H : Hp) (p l : Addr) (ns : List Int) (at_ dg ct fo : Int) : Prop := H p = some (.dK (penL l at_ dg ct fo)) ∧ H l = some (.lst (ns.map V.int)) ∧ ns.length ≤ 63
def Pen (H : Hp) (p l : Addr) (B : Int) : Prop := ∃ ns at_ dg ct fo, PenAt H p l ns at_ dg ct fo ∧ PenC at_ dg ct fo B
/-- all but p stands as it stood -/
def Kp (p : Addr) (H H' : Hp) : Prop := ∀ b o, b ≠ p → H b = some o → H' b = some o
theorem Kp.refl {p : Addr} {H : Hp} : Kp p H H := fun _ _ _ h => h
theorem Kp.trans {p : Addr} {H H1 H2 : Hp} (a : Kp p H H1) (b : Kp p H1 H2) : Kp p H H2 := fun c o n h => b c o n (a c o n h)
theorem Kp.of {p : Addr} {H H' : Hp} (s : Same H H') : Kp p H H' := fun b o _ h => s b o h
theorem same_upd {H : Hp} {p : Addr} {o : HO} (n : H p = none) : Same H (upd H p o) := fun b u e => by rw [upd_ne (ne_of_none e n)]; exact e
/-- the heap without p -/
def wo (p : Addr) (H : Hp) : Hp := fun b => if b = p then none else H b
theorem Kp.wo {p : Addr} {H H' : Hp} (k : Kp p H H') : Same (wo p H) (wo p H') := fun b o e => by
  unfold Vf.wo at e ⊢
  by_cases h : b = p
  · rw [if_pos h] at e
    cases e
  · rw [if_neg h] at e ⊢
    exact k b o h e
theorem wo_sub {p : Addr} {H : Hp} : Same (wo p H) H := fun b o e => by
  unfold Vf.wo at e
  by_cases h : b = p
  · rw [if_pos h] at e
    cases e
  · rw [if_neg h] at e
    exact e
theorem wo_at {p b : Addr} {H : Hp} {o : HO} (h : b ≠ p) (e : H b = some o) : wo p H b = some o := by
  unfold Vf.wo
  rw [if_neg h]
  exact e
theorem PenAt.ne {H : Hp} {p l : Addr} {ns : List Int} {a d c f : Int} (h : PenAt H p l ns a d c f) : l ≠ p := ne_of h.2.1 h.1 (by intro z; cases z)
theorem PenAt.same {H H' : Hp} {p l : Addr} {ns : List Int} {a d c f : Int} (h : PenAt H p l ns a d c f) (s : Same H H') : PenAt H' p l ns a d c f := ⟨s _ _ h.1, s _ _ h.2.1, h.2.2⟩
theorem Pen.same {H H' : Hp} {p l : Addr} {B : Int} (h : Pen H p l B) (s : Same H H') : Pen H' p l B := by
  obtain ⟨ns, a, d, c, f, h1, h2⟩ := h
  exact ⟨ns, a, d, c, f, h1.same s, h2⟩
theorem Pen.more {H : Hp} {p l : Addr} {B B' : Int} (h : Pen H p l B) (e : B ≤ B') : Pen H p l B' := by
  obtain ⟨ns, a, d, c, f, h1, h2⟩ := h
  exact ⟨ns, a, d, c, f, h1, h2.a0, h2.d0, h2.c0, Int.le_trans h2.cB e, h2.f0, h2.f1⟩
theorem Pen.there {H : Hp} {p l : Addr} {B : Int} (h : Pen H p l B) : ∃ o, H p = some o := by
  obtain ⟨ns, a, d, c, f, h1, h2⟩ := h
  exact ⟨_, h1.1⟩
theorem PenAt.put {H : Hp} {p l : Addr} {ns : List Int} {a d c f a' d' c' f' : Int} (h : PenAt H p l ns a d c f) : PenAt (upd H p (.dK (penL l a' d' c' f'))) p l ns a' d' c' f' :=
  ⟨upd_same, by rw [upd_ne h.ne]; exact h.2.1, h.2.2⟩
theorem kp_upd {H : Hp} {p : Addr} {o : HO} : Kp p H (upd H p o) := fun b u n e => by rw [upd_ne n]; exact e

def spPen (K : PySem.W.Frag) : Sp := fun vs H Q _ => ∃ (a : Addr) (ns : List Int), vs = [.ref a] ∧ SqL K H a (ns.map V.int) ∧ ns.length ≤ 63 ∧ ∀ (p l : Addr) (H' : Hp), Same H H' → H p = none → H l = none → Pen H' p l 0 → Q (.ref p) H'
def spDraw : Sp := fun vs H Q _ => ∃ (p l : Addr) (B many : Int), vs = [.ref p, .int many] ∧ Pen H p l B ∧ B ≤ 1000000000 ∧ 0 < many ∧ many < 1000000001 ∧
  ∀ (z : Int) (H' : Hp), 0 ≤ z → z < many → Pen H' p l (B + 1) → Kp p H H' → Q (.int z) H'
def spPick : Sp := fun vs H Q _ => ∃ (p l s : Addr) (B : Int) (xs : List V), vs = [.ref p, .ref s] ∧ Pen H p l B ∧ B ≤ 1000000000 ∧ H s = some (.lst xs) ∧ s ≠ p ∧ 0 < xs.length ∧ xs.length < 1000000 ∧
  ∀ (x : V) (H' : Hp), x ∈ xs → Pen H' p l (B + 1) → Kp p H H' → Q x H'
def spFar : Sp := fun vs H Q _ => ∃ (p l : Addr) (B : Int), vs = [.ref p] ∧ Pen H p l B ∧ B ≤ 100000000 ∧
  ∀ (z : Int) (H' : Hp), -1000000000000000000 < z → z < 1000000000000000000 → Pen H' p l (B + 8) → Kp p H H' → Q (.int z) H'
/-- built-in names that the text leaves alone -/
structure Bi (mg : Str → Option Value) : Prop where
  int : mg "int" = none
  list : mg "list" = none
  len : mg "len" = none
  range : mg "range" = none
/-- a def of the text that raises nothing -/
structure Df (P : Program) (w : World) (K : PySem.W.Frag) (mg : Str → Option Value) (base : Heap) (x : Str) (k : Nat) (ps : List Str) (sp : Sp) where
  f : Addr
  fd : FuncData
  m : mg x = some (.ref f)
  kp : PySem.W.keepIn K (.ref f) = true
  b : Binds K fd ps []
  ok : FnOk P w K mg base CX0 k f fd ps sp

abbrev sPen : Stmt := topS 38
abbrev sDraw : Stmt := topS (38 + 1)
abbrev sPick : Stmt := topS (38 + 2)
section
variable {P : Program} {w : World} {K : PySem.W.Frag} {mg : Str → Option Value} {base : Heap}
theorem scPen : FnScope ["_law_script", "_law_fold", "_law_cell"] ["_law_script"] (defScope sPen) := ⟨rfl, rfl, rfl, by decide +kernel, rfl, by decide +kernel, by decide +kernel⟩
theorem ok_pen {f : Addr} {fd : FuncData} (F : Fun K "_law_pen" "_law_pen" sPen f fd) (T : Bi mg) : FnOk P w K mg base CX0 1 f fd ["_law_script"] (spPen K) := by
  refine F.ok scPen (fun vs H Q E h => ?_) (fun cdv A outer s H vs Q E hr h => ?_)
  · obtain ⟨a, ns, rfl, _⟩ := h
    rfl
  · obtain ⟨a, ns, rfl, hS, hl, k⟩ := h
    refine ⟨_, (pss_cons (ps_set (i := 1) scPen.nd rfl (Or.inl rfl) pe_int)
      (pss_cons (ps_for PassesOwn.never rfl (pi_list (pv 0)) (pg_name (i := 2) scPen.nd rfl (Or.inl rfl))
        (pss_one (ps_set (i := 1) scPen.nd rfl (Or.inl rfl) (pe_op op_mod (pe_callTy call_int1 (by rfl) T.int (by decide +kernel) (pa_cons (pe_op op_add (pe_op op_mul (pv 1) pe_int) (pv 2)) pa_nil)) pe_int))))
      (pss_one (ps_ret (pe_disp (pps_cons pe_str (pe_callTy call_list_of (by rfl) T.list (by decide +kernel) (pa_cons (pv 0) pa_nil)) (pps_cons pe_str pe_int (pps_cons pe_str pe_int (pps_cons pe_str pe_int (pps_cons pe_str (pv 1) pps_nil))))) (by rfl) (by rfl) (fun z => by cases z) (by decide)))))), ?_⟩
    refine ⟨_, rfl, a, rfl, ⟨_, hS⟩, for_list (K := K) (a := a) (xs := ns.map V.int) (fun i σ H2 => H2 = H ∧ ∃ (z : Int) (v : Option V), σ = [some (.ref a), some (.int z), v] ∧ 0 ≤ z ∧ z < 1000000007)
      ⟨rfl, 0, none, rfl, by decide, by decide⟩ (fun i σ H2 _ ⟨e, _⟩ => by rw [e]; exact hS) ?_ ?_⟩
    · rintro i y σ H2 hi ⟨rfl, z, v, rfl, h0, h1⟩
      obtain ⟨n, rfl⟩ : ∃ n, y = V.int n := by
        rw [List.getElem?_map] at hi
        cases e : ns[i]? with
        | none =>
          rw [e] at hi
          cases hi
        | some n =>
          rw [e] at hi
          exact ⟨n, (Option.some.inj hi).symm⟩
      refine ⟨_, rfl, _, _, rfl, rfl, .inl ⟨by omega, by omega⟩, _, rfl, _, _, rfl, rfl, .inl ⟨_, rfl, _, _, rfl, rfl, (by show (0 : Int) < 1000000007; decide), ?_⟩⟩
      exact ⟨rfl, _, _, rfl, Int.emod_nonneg _ (by decide), Int.emod_lt_of_pos _ (by decide)⟩
    · rintro σ H2 ⟨rfl, z, v, rfl, h0, h1⟩
      intro p np
      refine ⟨_, rfl, a, _, rfl, .inl ((same_upd np).seq hS), fun l nl => ?_⟩
      refine ⟨_, rfl, ?_⟩
      have npl : p ≠ l := ne_of_none upd_same nl
      refine ⟨by rw [upd_ne npl]; exact upd_same, [(.inr "cells", .ref l), (.inr "at", .int 0), (.inr "digits", .int 0), (.inr "count", .int 0), (.inr "fold", .int z)], rfl, (by show 5 ≤ 15; decide), ?_⟩
      rw [pm]
      have nl2 : H2 l = none := by
        have q := nl
        rw [upd_ne npl.symm] at q
        exact q
      refine k p l _ (fun b o e => ?_) np nl2 ⟨ns, 0, 0, 0, z, ⟨upd_same, by rw [upd_ne npl.symm]; exact upd_same, hl⟩, by decide, by decide, by decide, by decide, h0, by omega⟩
      rw [upd_ne (ne_of_none e np), upd_ne (ne_of_none e nl2), upd_ne (ne_of_none e np)]
      exact e
theorem scDraw : FnScope ["_law_pen_here", "_law_many", "_law_cell", "_law_digit", "_law_mixed"] ["_law_pen_here", "_law_many"] (defScope sDraw) := ⟨rfl, rfl, rfl, by decide +kernel, rfl, by decide +kernel, by decide +kernel⟩
theorem ok_draw {f : Addr} {fd : FuncData} (F : Fun K "_law_draw" "_law_draw" sDraw f fd) (T : Bi mg) : FnOk P w K mg base CX0 1 f fd ["_law_pen_here", "_law_many"] spDraw := by
  refine F.ok scDraw (fun vs H Q E h => ?_) (fun cdv A outer s H vs Q E hr h => ?_)
  · obtain ⟨p, l, B, m, rfl, _⟩ := h
    rfl
  · obtain ⟨p, l, B, m, rfl, ⟨ns, a0, d0, c0, f0, hP, hC⟩, hB, hm0, hm1, k⟩ := h
    have hu := hu_of hr
    have small : ∀ {l : Addr} {a d c f : Int}, (penL l a d c f).length < sizeLine := by intros; show 5 < sizeLine; decide
    refine ⟨_, (pss_cons (ps_dput hu (pv 0) pe_str (pe_op op_add (pe_dget hu (pv 0) pe_str (fun _ _ => rfl)) pe_int) rfl)
  (C8.pss_cut (ps_if (PW.pt (pw_and (pt_cmpR op_eq (pe_dget hu (pv 0) pe_str (fun _ _ => rfl)) pe_int (nomark _)) (pw_and1 (pt_cmpR op_lt (pe_dget hu (pv 0) pe_str (fun _ _ => rfl)) (pe_callB call_len_seq (by rfl) T.len (by decide +kernel) (pa_cons (pe_dget hu (pv 0) pe_str (fun _ _ => rfl)) pa_nil)) (nomark _)))))
    (pss_cons (ps_set (i := 2) scDraw.nd rfl (Or.inl rfl) (pe_ix ix_list (pe_dget hu (pv 0) pe_str (fun _ _ => rfl)) (pe_dget hu (pv 0) pe_str (fun _ _ => rfl)) (fun _ _ => rfl)))
    (pss_cons (ps_dput hu (pv 0) pe_str (pe_op op_add (pe_dget hu (pv 0) pe_str (fun _ _ => rfl)) pe_int) rfl)
    (pss_one (ps_if (pt_cmpR op_ge (pv 2) (pe_op op_pow pe_int pe_int) (nomark _))
      (pss_one (ps_dput hu (pv 0) pe_str (pe_op op_sub (pv 2) (pe_op op_pow pe_int pe_int)) rfl))
      (pss_one (ps_dput hu (pv 0) pe_str (pe_op op_mod (pe_callTy call_int1 (by rfl) T.int (by decide +kernel) (pa_cons (pe_op op_add (pe_op op_mul (pe_dget hu (pv 0) pe_str (fun _ _ => rfl)) pe_int) (pv 2)) pa_nil)) pe_int) rfl))))))
    pss_nil)
  (pss_cons (ps_if (pt_cmpR op_gt (pe_dget hu (pv 0) pe_str (fun _ _ => rfl)) pe_int (nomark _))
    (pss_cons (ps_set (i := 3) scDraw.nd rfl (Or.inl rfl) (pe_op op_mod (pe_callTy call_int1 (by rfl) T.int (by decide +kernel) (pa_cons (pe_dget hu (pv 0) pe_str (fun _ _ => rfl)) pa_nil)) (pv 1)))
    (pss_cons (ps_dput hu (pv 0) pe_str (pe_op op_fdiv (pe_dget hu (pv 0) pe_str (fun _ _ => rfl)) (pv 1)) rfl)
    (pss_one (ps_ret (pv 3)))))
    pss_nil)
  (pss_cons (ps_set (i := 4) scDraw.nd rfl (Or.inl rfl) (pe_op op_add (pe_op op_add (pe_dget hu (pv 0) pe_str (fun _ _ => rfl)) (pe_op op_mul (pe_dget hu (pv 0) pe_str (fun _ _ => rfl)) pe_int)) pe_int))
  (pss_one (ps_ret (pe_op op_mod (pe_op op_fdiv (pe_callTy call_int1 (by rfl) T.int (by decide +kernel) (pa_cons (pe_op op_mod (pe_op op_pow (pv 4) pe_int) pe_int) pa_nil)) pe_int) (pv 1)))))))), ?_⟩
    -- count
    refine ⟨_, rfl, p, .int c0, rfl, ?_, _, _, rfl, rfl, _, rfl, p, _, rfl, DPut.k (k := Sum.inr "count") hP.1 small, ?_⟩
    · have q := DGet.k (k := (Sum.inr "count" : Key)) hP.1
      rw [pv4] at q
      exact q
    rw [pp4]
    have hP1 := hP.put (a' := a0) (d' := d0) (c' := c0 + 1) (f' := f0)
    generalize hH1 : upd H p (.dK (penL l a0 d0 (c0 + 1) f0)) = H1 at hP1
    have k1 : Kp p H H1 := by rw [← hH1]; exact kp_upd
    clear hH1
    -- the cut: a pen again
    refine ⟨fun σ H2 => ∃ (v2 : Option V) (a d c f : Int), σ = [some (.ref p), some (.int m), v2, none, none] ∧ PenAt H2 p l ns a d c f ∧ PenC a d c f (B + 1) ∧ Kp p H H2, ?_, ?_⟩
    · have g3 : DGet H1 p (kV (Sum.inr "digits")) (some (.int d0)) := by
        have q := DGet.k (k := (Sum.inr "digits" : Key)) hP1.1
        rw [pv3] at q
        exact q
      have g2 : DGet H1 p (kV (Sum.inr "at")) (some (.int a0)) := by
        have q := DGet.k (k := (Sum.inr "at" : Key)) hP1.1
        rw [pv2] at q
        exact q
      have g1 : DGet H1 p (kV (Sum.inr "cells")) (some (.ref l)) := by
        have q := DGet.k (k := (Sum.inr "cells" : Key)) hP1.1
        rw [pv1] at q
        exact q
      refine ⟨_, rfl, p, _, rfl, g3, rfl, _, rfl, ?_⟩
      have stay : ∃ (v2 : Option V) (a d c f : Int), start ["_law_pen_here", "_law_many", "_law_cell", "_law_digit", "_law_mixed"] [V.ref p, V.int m] = [some (.ref p), some (.int m), v2, none, none] ∧ PenAt H1 p l ns a d c f ∧ PenC a d c f (B + 1) ∧ Kp p H H1 :=
        ⟨none, a0, d0, c0 + 1, f0, rfl, hP1, ⟨hC.a0, hC.d0, by have := hC.c0; omega, by have := hC.cB; omega, hC.f0, hC.f1⟩, k1⟩
      by_cases hd : d0 = 0
      · rw [decide_eq_true (by rw [hd])]
        refine iteT ?_
        refine ⟨_, rfl, p, _, rfl, g2, _, rfl, p, _, rfl, g1, l, _, rfl, .inl (SqL.of hP1.2.1), _, _, rfl, rfl, _, rfl, ?_⟩
        rw [List.length_map]
        by_cases ha : a0 < (ns.length : Int)
        · rw [decide_eq_true ha]
          refine iteT ?_
          have han : a0.toNat < ns.length := by have := hC.a0; omega
          have hat : (ns.map V.int)[a0.toNat]? = some (V.int ns[a0.toNat]) := by
            rw [List.getElem?_map, List.getElem?_eq_getElem han]
            rfl
          generalize ns[a0.toNat] = z at hat
          refine ⟨_, rfl, p, _, rfl, g1, _, rfl, p, _, rfl, g2, l, _, a0, .int z, rfl, rfl, SqL.of hP1.2.1, at_of (j := a0.toNat) (by have := hC.a0; omega) hat, ?_⟩
          refine ⟨_, rfl, p, _, rfl, g2, _, _, rfl, rfl, _, rfl, p, _, rfl, DPut.k (k := Sum.inr "at") hP1.1 small, ?_⟩
          rw [pp2]
          have hP2 := hP1.put (a' := a0 + 1) (d' := d0) (c' := c0 + 1) (f' := f0)
          generalize hH2 : upd H1 p (.dK (penL l (a0 + 1) d0 (c0 + 1) f0)) = H2 at hP2
          have k2 : Kp p H H2 := by rw [← hH2]; exact k1.trans kp_upd
          clear hH2
          refine ⟨_, rfl, _, _, rfl, rfl, ⟨by decide, by decide, by decide⟩, _, _, rfl, rfl, _, rfl, ?_⟩
          refine ite2 (fun hz => ?_) (fun hz => ?_)
          · have hz2 : (10 : Int) ^ (18 : Int).toNat ≤ z := of_decide_eq_true hz
            refine ⟨_, rfl, _, _, rfl, rfl, ⟨by decide, by decide, by decide⟩, _, _, rfl, rfl, _, rfl, p, _, rfl, DPut.k (k := Sum.inr "digits") hP2.1 small, ?_⟩
            rw [pp3]
            exact ⟨_, a0 + 1, _, c0 + 1, f0, rfl, hP2.put, ⟨by have := hC.a0; omega, by omega, by have := hC.c0; omega, by have := hC.cB; omega, hC.f0, hC.f1⟩, k2.trans kp_upd⟩
          · refine ⟨_, rfl, p, .int f0, rfl, ?_, _, _, rfl, rfl, .inl ⟨?_, ?_⟩, _, rfl, _, _, rfl, rfl, .inl ⟨_, rfl, _, _, rfl, rfl, (by show (0 : Int) < 2147483587; decide), _, rfl, p, _, rfl, DPut.k (k := Sum.inr "fold") hP2.1 small, ?_⟩⟩
            · have q := DGet.k (k := (Sum.inr "fold" : Key)) hP2.1
              rw [pv5] at q
              exact q
            · have := hC.f0; omega
            · have := hC.f1; omega
            rw [pp5]
            exact ⟨_, a0 + 1, d0, c0 + 1, _, rfl, hP2.put, ⟨by have := hC.a0; omega, hC.d0, by have := hC.c0; omega, by have := hC.cB; omega, Int.emod_nonneg _ (by decide), Int.emod_lt_of_pos _ (by decide)⟩, k2.trans kp_upd⟩
        · rw [decide_eq_false ha]
          refine iteF ?_
          exact stay
      · rw [decide_eq_false (fun z => hd (by have z2 := V.int.inj z; exact z2))]
        refine iteF ?_
        exact stay
    · rintro σ H2 ⟨v2, a, d, c, f, rfl, hP2, hC2, k2⟩
      have g3 : DGet H2 p (kV (Sum.inr "digits")) (some (.int d)) := by
        have q := DGet.k (k := (Sum.inr "digits" : Key)) hP2.1
        rw [pv3] at q
        exact q
      refine ⟨_, rfl, p, _, rfl, g3, _, _, rfl, rfl, _, rfl, ?_⟩
      refine ite2 (fun hz => ?_) (fun hz => ?_)
      · have hz2 : 0 < d := of_decide_eq_true hz
        refine ⟨_, rfl, p, _, rfl, g3, .inl ⟨_, rfl, _, rfl, _, _, rfl, rfl, hm0, ?_⟩⟩
        refine ⟨_, rfl, p, _, rfl, g3, _, rfl, _, _, rfl, rfl, ⟨hm0, by omega⟩, _, rfl, p, _, rfl, DPut.k (k := Sum.inr "digits") hP2.1 small, ?_⟩
        rw [pp3]
        exact ⟨_, rfl, k _ _ (Int.emod_nonneg _ (by omega)) (Int.emod_lt_of_pos _ hm0) ⟨ns, a, _, c, f, hP2.put, hC2.a0, Int.ediv_nonneg hC2.d0 (by omega), hC2.c0, hC2.cB, hC2.f0, hC2.f1⟩ (k2.trans kp_upd)⟩
      · refine ⟨_, rfl, p, .int f, rfl, ?_, _, rfl, p, .int c, rfl, ?_, _, _, rfl, rfl, .inl ⟨?_, ?_⟩, _, _, rfl, rfl, _, _, rfl, rfl, ?_⟩
        · have q := DGet.k (k := (Sum.inr "fold" : Key)) hP2.1
          rw [pv5] at q
          exact q
        · have q := DGet.k (k := (Sum.inr "count" : Key)) hP2.1
          rw [pv4] at q
          exact q
        · have := hC2.c0; omega
        · have := hC2.cB; omega
        have b1 := hC2.c0
        have b2 := hC2.cB
        have b3 := hC2.f0
        have b4 := hC2.f1
        refine ⟨_, rfl, _, _, rfl, rfl, ⟨by decide, by decide, ?_⟩, _, _, rfl, rfl, (by show (0 : Int) < 2305843009213693951; decide), .inl ⟨_, rfl, _, _, rfl, rfl, ⟨by decide, by decide⟩, _, rfl, _, _, rfl, rfl, hm0, ?_⟩⟩
        · show (f + c * 7907 + 43).natAbs < 2 ^ 64
          omega
        exact k _ _ (Int.emod_nonneg _ (by omega)) (Int.emod_lt_of_pos _ hm0) ⟨ns, a, d, c, f, hP2, hC2⟩ k2
theorem scPick : FnScope ["_law_pen_here", "_law_some"] ["_law_pen_here", "_law_some"] (defScope sPick) := ⟨rfl, rfl, rfl, by decide +kernel, rfl, by decide +kernel, by decide +kernel⟩
theorem ok_pick {f : Addr} {fd : FuncData} (F : Fun K "_law_pick" "_law_pick" sPick f fd) (T : Bi mg) (G : Df P w K mg base "_law_draw" 1 ["_law_pen_here", "_law_many"] spDraw) : FnOk P w K mg base CX0 2 f fd ["_law_pen_here", "_law_some"] spPick := by
  refine F.ok scPick (fun vs H Q E h => ?_) (fun cdv A outer s H vs Q E hr h => ?_)
  · obtain ⟨p, l, s, B, xs, rfl, _⟩ := h
    rfl
  · obtain ⟨p, l, s, B, xs, rfl, hP, hB, hs, hne, h0, h1, k⟩ := h
    refine ⟨_, (pss_one (ps_ret (pe_ix ix_list (pv 1) (pe_call G.ok hr rfl G.m G.kp G.b .nil pass0 (pa_cons (pv 0) (pa_cons (pe_callB call_len_seq (by rfl) T.len (by decide +kernel) (pa_cons (pv 1) pa_nil)) pa_nil))) (fun _ _ => rfl)))), ?_⟩
    refine ⟨_, rfl, _, rfl, _, rfl, s, _, rfl, .inl (SqL.of hs), p, l, B, _, rfl, hP, hB, by omega, by omega, fun z H' z0 z1 hP' kp => ?_⟩
    have hzn : z.toNat < xs.length := by omega
    exact ⟨s, xs, z, xs[z.toNat], rfl, rfl, SqL.of (kp _ _ hne hs), at_of (j := z.toNat) (by omega) (List.getElem?_eq_getElem hzn), k _ _ (List.getElem_mem hzn) hP' kp⟩
end

end Vf

set_option maxRecDepth 100000
set_option maxHeartbeats 8000000
namespace Vf
open PySem PySem.Spec PyProof.Rows L2
/-! ### the errors' own __init__ -/
def fl (names : List Str) (xs : List V) : List (Str × V) := (names.zip xs).reverse
/-- self.f = f, for each of the names -/
def spIni (C : Addr) (names : List Str) : Sp := fun vs H Q _ => ∃ (a : Addr) (xs : List V), vs = .ref a :: xs ∧ xs.length = names.length ∧ H a = some (exo a C none) ∧
  ∀ (d : Addr) (H' : Hp), H d = none → d ≠ a → H' a = some (exo a C (some d)) → H' d = some (exd d (fl names xs)) → (∀ b o, b ≠ a → H b = some o → H' b = some o) → Q .non H'
theorem keep2 {H : Hp} {a d : Addr} {o u : HO} (n : H d = none) : ∀ b z, b ≠ a → H b = some z → upd (upd H d o) a u b = some z := fun b z h e => by
  rw [upd_ne h, upd_ne (ne_of_none e n)]
  exact e
theorem keep3 {H1 H : Hp} {a d : Addr} {u : HO} (n : H d = none) (k : ∀ b z, b ≠ a → H b = some z → H1 b = some z) : ∀ b z, b ≠ a → H b = some z → upd H1 d u b = some z := fun b z h e => by
  rw [upd_ne (ne_of_none e n)]
  exact k b z h e
section
variable {P : Program} {w : World} {K : PySem.W.Frag} {mg : Str → Option Value} {base : Heap}
theorem scBadText : FnScope ["self", "column"] ["self", "column"] (defScope (inClass (topS 2) 0)) := ⟨rfl, rfl, rfl, by decide +kernel, rfl, by decide +kernel, by decide +kernel⟩
theorem iniBadText {f C : Addr} {fd : FuncData} (F : Fun K "__init__" "BadText.__init__" (inClass (topS 2) 0) f fd) (T : OexC K C) (n1 : PySem.W.findIn K (.ref C) "column" = some none) :
    FnOk P w K mg base CX0 1 f fd ["self", "column"] (spIni C ["column"]) := by
  refine F.ok scBadText (fun vs H Q E h => ?_) (fun cdv A outer s H vs Q E hr h => ?_)
  · obtain ⟨a, xs, rfl, hl, _⟩ := h
    rw [List.length_cons, hl]
    all_goals rfl
  · obtain ⟨a, xs, rfl, hl, ha, k⟩ := h
    match xs, hl with
    | [v1], _ =>
    refine ⟨_, (pss_one (ps_ost (pv 0) (pv 1))), ?_⟩
    refine ⟨_, rfl, _, rfl, a, C, rfl, T, n1, .inl ⟨ha, fun d nd ne => ?_⟩⟩
    exact k d _ nd ne upd_same (by rw [upd_ne ne]; exact upd_same) (keep2 nd)
theorem scBadLine : FnScope ["self", "line", "column"] ["self", "line", "column"] (defScope (inClass (topS 3) 0)) := ⟨rfl, rfl, rfl, by decide +kernel, rfl, by decide +kernel, by decide +kernel⟩
theorem iniBadLine {f C : Addr} {fd : FuncData} (F : Fun K "__init__" "BadLine.__init__" (inClass (topS 3) 0) f fd) (T : OexC K C) (n1 : PySem.W.findIn K (.ref C) "line" = some none) (n2 : PySem.W.findIn K (.ref C) "column" = some none) :
    FnOk P w K mg base CX0 1 f fd ["self", "line", "column"] (spIni C ["line", "column"]) := by
  refine F.ok scBadLine (fun vs H Q E h => ?_) (fun cdv A outer s H vs Q E hr h => ?_)
  · obtain ⟨a, xs, rfl, hl, _⟩ := h
    rw [List.length_cons, hl]
    all_goals rfl
  · obtain ⟨a, xs, rfl, hl, ha, k⟩ := h
    match xs, hl with
    | [v1, v2], _ =>
    refine ⟨_, (pss_cons (ps_ost (pv 0) (pv 1)) (pss_one (ps_ost (pv 0) (pv 2)))), ?_⟩
    refine ⟨_, rfl, _, rfl, a, C, rfl, T, n1, .inl ⟨ha, fun d nd ne => ?_⟩⟩
    have e1 : (upd (upd H d (exd d [("line", v1)])) a (exo a C (some d))) a = some (exo a C (some d)) := upd_same
    have e2 : (upd (upd H d (exd d [("line", v1)])) a (exo a C (some d))) d = some (exd d [("line", v1)]) := by rw [upd_ne ne]; exact upd_same
    have e3 := keep2 (H := H) (a := a) (d := d) (o := exd d [("line", v1)]) (u := exo a C (some d)) nd
    generalize upd (upd H d (exd d [("line", v1)])) a (exo a C (some d)) = H1 at e1 e2 e3
    refine ⟨_, rfl, _, rfl, a, C, rfl, T, n2, .inr ⟨d, _, e1, e2, (by show 1 ≤ 900; decide), ?_⟩⟩
    exact k d _ nd ne (by rw [upd_ne ne.symm]; exact e1) upd_same (keep3 nd e3)
theorem scBadNumber : FnScope ["self", "what", "number"] ["self", "what", "number"] (defScope (inClass (topS 4) 0)) := ⟨rfl, rfl, rfl, by decide +kernel, rfl, by decide +kernel, by decide +kernel⟩
theorem iniBadNumber {f C : Addr} {fd : FuncData} (F : Fun K "__init__" "BadNumber.__init__" (inClass (topS 4) 0) f fd) (T : OexC K C) (n1 : PySem.W.findIn K (.ref C) "what" = some none) (n2 : PySem.W.findIn K (.ref C) "number" = some none) :
    FnOk P w K mg base CX0 1 f fd ["self", "what", "number"] (spIni C ["what", "number"]) := by
  refine F.ok scBadNumber (fun vs H Q E h => ?_) (fun cdv A outer s H vs Q E hr h => ?_)
  · obtain ⟨a, xs, rfl, hl, _⟩ := h
    rw [List.length_cons, hl]
    all_goals rfl
  · obtain ⟨a, xs, rfl, hl, ha, k⟩ := h
    match xs, hl with
    | [v1, v2], _ =>
    refine ⟨_, (pss_cons (ps_ost (pv 0) (pv 1)) (pss_one (ps_ost (pv 0) (pv 2)))), ?_⟩
    refine ⟨_, rfl, _, rfl, a, C, rfl, T, n1, .inl ⟨ha, fun d nd ne => ?_⟩⟩
    have e1 : (upd (upd H d (exd d [("what", v1)])) a (exo a C (some d))) a = some (exo a C (some d)) := upd_same
    have e2 : (upd (upd H d (exd d [("what", v1)])) a (exo a C (some d))) d = some (exd d [("what", v1)]) := by rw [upd_ne ne]; exact upd_same
    have e3 := keep2 (H := H) (a := a) (d := d) (o := exd d [("what", v1)]) (u := exo a C (some d)) nd
    generalize upd (upd H d (exd d [("what", v1)])) a (exo a C (some d)) = H1 at e1 e2 e3
    refine ⟨_, rfl, _, rfl, a, C, rfl, T, n2, .inr ⟨d, _, e1, e2, (by show 1 ≤ 900; decide), ?_⟩⟩
    exact k d _ nd ne (by rw [upd_ne ne.symm]; exact e1) upd_same (keep3 nd e3)
end
/-! ### ratios: the program's own defs -/
def tyD : PyData → String
  | .none => "NoneType"
  | .bool _ => "bool"
  | .int _ => "int"
  | .str _ => "str"
  | .list _ => "list"
  | .tuple _ => "tuple"
  | .dict _ => "dict"
theorem Dt.ty {K : PySem.W.Frag} {H : Hp} {v : V} {d : PyData} (h : Dt K H v d) : TyX K H v (.type (tyD d)) := by
  cases h with
  | non => exact .base .non
  | bl b => exact .base (.bl b)
  | int i => exact .base (.int i)
  | str x => exact .base (.str x)
  | lst h1 _ =>
    rcases h1 with (h1 | ⟨o, h1⟩) | ⟨o, _, _, h1, h2, _⟩
    · exact .base (.lst h1)
    · exact .base (.frz h1)
    · exact .kList h1 h2
  | tup h1 _ =>
    rcases h1 with (h1 | ⟨o, h1⟩) | ⟨o, _, _, h1, h2, _⟩
    · exact .base (.tup h1)
    · exact .fTuple h1
    · exact .kTuple h1 h2
  | dct h1 _ => exact .base (.dK h1)
def intD : PyData → Bool
  | .int _ => true
  | .bool _ => true
  | _ => false
def boolD : PyData → Bool
  | .bool _ => true
  | _ => false
def wholeD : PyData → Bool
  | .int _ => true
  | _ => false
theorem kit_int {K : PySem.W.Frag} (d : PyData) : PySem.W.kitOne K (.type (tyD d)) (.type "int") = some (intD d) := by
  cases d with
  | none => exact kit_ty (show kitB "NoneType" "int" = some false by decide +kernel)
  | bool _ => exact kit_ty (show kitB "bool" "int" = some true by decide +kernel)
  | int _ => exact kit_ty (show kitB "int" "int" = some true by decide +kernel)
  | str _ => exact kit_ty (show kitB "str" "int" = some false by decide +kernel)
  | list _ => exact kit_ty (show kitB "list" "int" = some false by decide +kernel)
  | tuple _ => exact kit_ty (show kitB "tuple" "int" = some false by decide +kernel)
  | dict _ => exact kit_ty (show kitB "dict" "int" = some false by decide +kernel)
theorem kit_bool {K : PySem.W.Frag} (d : PyData) : PySem.W.kitOne K (.type (tyD d)) (.type "bool") = some (boolD d) := by
  cases d with
  | none => exact kit_ty (show kitB "NoneType" "bool" = some false by decide +kernel)
  | bool _ => exact kit_ty (show kitB "bool" "bool" = some true by decide +kernel)
  | int _ => exact kit_ty (show kitB "int" "bool" = some false by decide +kernel)
  | str _ => exact kit_ty (show kitB "str" "bool" = some false by decide +kernel)
  | list _ => exact kit_ty (show kitB "list" "bool" = some false by decide +kernel)
  | tuple _ => exact kit_ty (show kitB "tuple" "bool" = some false by decide +kernel)
  | dict _ => exact kit_ty (show kitB "dict" "bool" = some false by decide +kernel)
/-- a ratio's top and bottom, as it is passed -/
def pair? : List PyData → Option (Int × Int)
  | [.int a, .int b] => if 0 < b then some (a, b) else none
  | _ => none
def partsD : PyData → Option (Int × Int)
  | .int i => some (i, 1)
  | .list ds => pair? ds
  | .tuple ds => pair? ds
  | _ => none
def seqD : PyData → Option (List PyData)
  | .list ds => some ds
  | .tuple ds => some ds
  | _ => none
theorem kit_seq {K : PySem.W.Frag} (d : PyData) : PySem.W.kitAny K (.type (tyD d)) [.type "tuple", .type "list"] = some (seqD d).isSome := by
  have two : ∀ {a b : Bool} {t : String}, kitB t "tuple" = some a → kitB t "list" = some b → PySem.W.kitAny K (.type t) [.type "tuple", .type "list"] = some (a || b) := fun {a b t} h1 h2 =>
    kitAny_cons (kit_ty h1) (fun e => by rw [e, Bool.false_or]; exact kitAny_cons (kit_ty h2) (fun e2 => by rw [e2]; exact kitAny_nil) (fun e2 => e2)) (fun e => by rw [e, Bool.true_or])
  cases d with
  | none => exact two (a := false) (b := false) (show kitB "NoneType" "tuple" = some false by decide +kernel) (show kitB "NoneType" "list" = some false by decide +kernel)
  | bool _ => exact two (a := false) (b := false) (show kitB "bool" "tuple" = some false by decide +kernel) (show kitB "bool" "list" = some false by decide +kernel)
  | int _ => exact two (a := false) (b := false) (show kitB "int" "tuple" = some false by decide +kernel) (show kitB "int" "list" = some false by decide +kernel)
  | str _ => exact two (a := false) (b := false) (show kitB "str" "tuple" = some false by decide +kernel) (show kitB "str" "list" = some false by decide +kernel)
  | list _ => exact two (a := false) (b := true) (show kitB "list" "tuple" = some false by decide +kernel) (show kitB "list" "list" = some true by decide +kernel)
  | tuple _ => exact two (a := true) (b := false) (show kitB "tuple" "tuple" = some true by decide +kernel) (show kitB "tuple" "list" = some false by decide +kernel)
  | dict _ => exact two (a := false) (b := false) (show kitB "dict" "tuple" = some false by decide +kernel) (show kitB "dict" "list" = some false by decide +kernel)
/-- built-in names that the text leaves alone, and gcd -/
structure Bk (mg : Str → Option Value) : Prop extends Bi mg where
  isinstance : mg "isinstance" = none
  bool : mg "bool" = none
  tuple : mg "tuple" = none
  abs : mg "abs" = none
  str : mg "str" = none
/-- an error class with one __init__ of its own, as it is raised -/
structure Ex (P : Program) (w : World) (K : PySem.W.Frag) (mg : Str → Option Value) (base : Heap) (x : Str) (C : Addr) (names : List Str) where
  ox : OexC K C
  f : Addr
  fd : FuncData
  m : mg x = some (.ref C)
  iC : PySem.W.findIn K (.ref C) "__init__" = some (some (.ref f))
  tI : PySem.W.typeIn K (.ref f) = some (.type "function")
  b : Binds K fd ("self" :: names) []
  ok : FnOk P w K mg base CX0 1 f fd ("self" :: names) (spIni C names)
/-- a def of the text that may raise -/
structure Dx (P : Program) (w : World) (K : PySem.W.Frag) (mg : Str → Option Value) (base : Heap) (x : Str) (k : Nat) (ps : List Str) (sp : Sp) where
  f : Addr
  fd : FuncData
  m : mg x = some (.ref f)
  kp : PySem.W.keepIn K (.ref f) = true
  b : Binds K fd ps []
  ok : FnOk P w K mg base (L2.CX P w) k f fd ps sp
/-- what raise X(e, ..) leaves -/
theorem raise_end {C : Addr} {names : List Str} {H1 : Hp} {vs : List V} {W : XK} (hl : vs.length = names.length) (h : ∀ d H', Same H1 H' → H1 d = none → H' d = some (.xd (fl names vs)) → W (.ref C) (some d) H') :
    ∀ a, H1 a = none → spIni C names (.ref a :: (vs ++ [])) (upd H1 a (exo a C none)) (fun v H2 => v = .non ∧ ∃ (d : Addr) (fs : List (Str × V)), H2 a = some (exo a C (some d)) ∧ H2 d = some (exd d fs) ∧ H1 d = none ∧ W (.ref C) (some d) (upd (del H2 a) d (.xd fs))) (fun _ _ _ => False) := fun a na => by
  refine ⟨a, vs, by rw [List.append_nil], hl, upd_same, fun d H' nd ne ea ed k => ⟨rfl, d, fl names vs, ea, ed, ?_, ?_⟩⟩
  · rw [upd_ne ne] at nd
    exact nd
  · rw [upd_ne ne] at nd
    refine h d _ (fun b o e => ?_) nd upd_same
    have n1 := ne_of_none e na
    rw [upd_ne (ne_of_none e nd), del_ne n1]
    exact k b o n1 (by rw [upd_ne n1]; exact e)

def spWhole (K : PySem.W.Frag) : Sp := fun vs H Q _ => ∃ (v : V) (d : PyData), vs = [v] ∧ Dt K H v d ∧ Q (.bl (wholeD d)) H
def spIsRatio (K : PySem.W.Frag) : Sp := fun vs H Q _ => ∃ (v : V) (d : PyData), vs = [v] ∧ Dt K H v d ∧ ∀ H', Same H H' → Q (.bl (partsD d).isSome) H'
def big : Nat := 4000
def spLow : Sp := fun vs H Q _ => ∃ t b : Int, vs = [.int t, .int b] ∧ b ≠ 0 ∧ b.natAbs < 2 ^ big ∧ ∀ (p : Addr) (H' : Hp), Same H H' → H p = none → H' p = some (.tup [.int (low t b).1, .int (low t b).2]) → Q (.ref p) H'
/-- an error of BadNumber -/
def RaisesN (CN : Addr) (H : Hp) (wv v : V) (E : XK) : Prop := ∀ (d : Addr) (H' : Hp), Same H H' → H d = none → H' d = some (.xd (fl ["what", "number"] [wv, v])) → E (.ref CN) (some d) H'
theorem RaisesN.same {CN : Addr} {H H1 : Hp} {wv v : V} {E : XK} (s : Same H H1) (h : RaisesN CN H wv v E) : RaisesN CN H1 wv v E := fun d H' s' n e => h d H' (s.trans s') (s.free n) e
def spParts (K : PySem.W.Frag) (CN : Addr) : Sp := fun vs H Q E => ∃ (v wv : V) (d : PyData), vs = [v, wv] ∧ Dt K H v d ∧
  (∀ t b, partsD d = some (t, b) → ∀ (p : Addr) (H' : Hp), Same H H' → H' p = some (.tup [.int t, .int b]) → Q (.ref p) H') ∧ (partsD d = none → RaisesN CN H wv v E)
def spTold (K : PySem.W.Frag) (CN : Addr) : Sp := fun vs H Q E => ∃ (v wv : V) (d : PyData), vs = [v, wv] ∧ Dt K H v d ∧
  (∀ t b, partsD d = some (t, b) → b.natAbs < 2 ^ big ∧ ∀ (p : Addr) (H' : Hp), Same H H' → H' p = some (.tup [.int (low t b).1, .int (low t b).2]) → Q (.ref p) H') ∧ (partsD d = none → RaisesN CN H wv v E)
theorem pair_pos {ds : List PyData} {t b : Int} (h : pair? ds = some (t, b)) : ds = [.int t, .int b] ∧ 0 < b := by
  unfold pair? at h
  split at h
  · split at h
    · rename_i hb
      cases h
      exact ⟨rfl, hb⟩
    · cases h
  · cases h
theorem parts_pos {d : PyData} {t b : Int} (h : partsD d = some (t, b)) : 0 < b := by
  unfold partsD at h
  split at h
  · cases h
    decide
  · exact (pair_pos h).2
  · exact (pair_pos h).2
  · cases h
section
variable {P : Program} {w : World} {K : PySem.W.Frag} {mg : Str → Option Value} {base : Heap} {CN : Addr}
abbrev sIsWhole : Stmt := topS 7
theorem scIsWhole : FnScope ["value"] ["value"] (defScope sIsWhole) := ⟨rfl, rfl, rfl, by decide +kernel, rfl, by decide +kernel, by decide +kernel⟩
theorem ok_is_whole {f : Addr} {fd : FuncData} (F : Fun K "is_whole" "is_whole" sIsWhole f fd) (T : Bk mg) : FnOk P w K mg base CX0 1 f fd ["value"] (spWhole K) := by
  refine F.ok scIsWhole (fun vs H Q E h => ?_) (fun cdv A outer s H vs Q E hr h => ?_)
  · obtain ⟨v, d, rfl, _⟩ := h
    rfl
  · obtain ⟨v, d, rfl, hd, q⟩ := h
    refine ⟨_, (pss_one (ps_ret (pe_and (pe_callB call_isi (by rfl) T.isinstance (by decide +kernel) (pa_cons (pv 0) (pa_cons (pe_bltn (v := V.ty "int") (by rfl) T.int (by decide +kernel) rfl) pa_nil)))
      (pe_one (pe_not (pe_callB call_isi (by rfl) T.isinstance (by decide +kernel) (pa_cons (pv 0) (pa_cons (pe_bltn (v := V.ty "bool") (by rfl) T.bool (by decide +kernel) rfl) pa_nil)))))))), ?_⟩
    refine ⟨_, rfl, v, .ty "int", _, .type "int", _, rfl, .ty _, hd.ty, kit_int d, _, rfl, ?_⟩
    cases hi : intD d with
    | false =>
      refine iteF ?_
      have e : wholeD d = false := by cases d <;> first | rfl | (exact absurd hi (fun z => by cases z))
      rw [e] at q
      exact q
    | true =>
      refine iteT ?_
      refine ⟨_, rfl, v, .ty "bool", _, .type "bool", _, rfl, .ty _, hd.ty, kit_bool d, _, rfl, ?_⟩
      have e : wholeD d = !boolD d := by cases d <;> first | rfl | (exact absurd hi (fun z => by cases z))
      rw [e] at q
      exact q
theorem dts2 {H : Hp} {vs : List V} {a b : PyData} (h : Dts K H vs [a, b]) : ∃ x y, vs = [x, y] ∧ Dt K H x a ∧ Dt K H y b := by
  cases h with
  | cons h1 h2 =>
    cases h2 with
    | cons h3 h4 =>
      cases h4
      exact ⟨_, _, rfl, h1, h3⟩
/-- an item of a list or tuple -/
theorem seq_at {H : Hp} {a : Addr} {xs : List V} {Q : V → Hp → Prop} {z : Int} {x : V} (h : SqL K H a xs ∨ SqT K H a xs) (e : atI xs z = some x) (q : Q x H) : rIx K (.ref a) (.int z) H Q := by
  rcases h with h | h
  · exact .inl ⟨a, xs, z, x, rfl, rfl, h, e, q⟩
  · exact .inr (.inl ⟨a, xs, z, x, rfl, rfl, h, e, q⟩)
theorem Dt.seq {H : Hp} {v : V} {d : PyData} {ds : List PyData} (h : Dt K H v d) (e : seqD d = some ds) : ∃ a vs, v = .ref a ∧ (SqL K H a vs ∨ SqT K H a vs) ∧ Dts K H vs ds := by
  cases h with
  | lst h1 h2 =>
    cases e
    exact ⟨_, _, rfl, .inl h1, h2⟩
  | tup h1 h2 =>
    cases e
    exact ⟨_, _, rfl, .inr h1, h2⟩
  | _ => cases e
theorem seq_same {H H' : Hp} {a : Addr} {vs : List V} (s : Same H H') (h : SqL K H a vs ∨ SqT K H a vs) : SqL K H' a vs ∨ SqT K H' a vs := h.imp (same_sqL s) (same_sqT s)
theorem log_of {z : Int} {k : Nat} (hk : 0 < k) (h : z.natAbs < 2 ^ k) : z.natAbs.log2 < k := PySem.Flt.log2_lt_of hk h
theorem sg_cdiv {t b x : Int} (h : b ≠ 0) (hb : b.natAbs < 2 ^ big) : CDivZ x (sg t b) :=
  ⟨sg_ne h, Nat.lt_trans (log_of (k := big) (by decide) (Nat.lt_of_le_of_lt (sg_size h) hb)) (by decide)⟩
end

end Vf

set_option maxRecDepth 100000
set_option maxHeartbeats 8000000
namespace Vf
open PySem PySem.Spec PyProof.Rows L2
/-! ### defs whose exceptions have no context, and what is raised in an except suite -/
section
variable {P : Program} {w : World} {K : PySem.W.Frag} {mg : Str → Option Value} {base : Heap}
theorem okN {x qual : Str} {st : Stmt} {f : Addr} {fd : FuncData} {N ps : List Str} {k : Nat} {sp : Sp} (F : Fun K x qual st f fd) (S : FnScope N ps (defScope st)) (len : ∀ vs H Q E, sp vs H Q E → vs.length = ps.length)
    (hbody : ∀ (cdv : Value) (A : Around) (outer : List Env) (s : Shared) (H : Hp) (vs : List V) (Q : VK) (E : XK), Room k (A.deeper (envOfC qual (defScope st) s.heap.objs.size f cdv)) → sp vs H Q E →
      ∃ t, PSs (cxOf (L2N.CX P w) P w K mg base N qual (defScope st) f cdv A outer s H E) (defBody st) t ∧ t { nx := fun _ H' => Q .non H', rt := Q } (start N vs) H) : FnOk P w K mg base (L2N.CX P w) (k + 1) f fd ps sp := by
  obtain ⟨oc, od, kV, doc, pm, an, cdv, ct, osl, rfl, lk, hcd⟩ := F.ex
  exact fn_of lk hcd S len fun A outer s H vs Q E hr hsp => hbody cdv A outer s H vs Q E hr hsp
theorem okH {x qual : Str} {st : Stmt} {f : Addr} {fd : FuncData} {N ps : List Str} {k : Nat} {sp : Sp} (F : Fun K x qual st f fd) (S : FnScope N ps (defScope st)) (len : ∀ vs H Q E, sp vs H Q E → vs.length = ps.length)
    (hbody : ∀ (cdv : Value) (A : Around) (outer : List Env) (s : Shared) (H : Hp) (vs : List V) (Q : VK) (E : XK) (p : Addr × Obj), L2H.Hot1 A p → L2H.RoomH k (A.deeper (envOfC qual (defScope st) s.heap.objs.size f cdv)) → sp vs H Q E →
      ∃ t, PSs (L2H.cxH CX0 P w K mg base N qual (defScope st) f cdv A outer s H E p) (defBody st) t ∧ t { nx := fun _ H' => Q .non H', rt := Q } (start N vs) H) : L2H.FnH P w K mg base CX0 (k + 1) f fd ps sp := by
  obtain ⟨oc, od, kV, doc, pm, an, cdv, ct, osl, rfl, lk, hcd⟩ := F.ex
  exact L2H.fn_ofH lk hcd S len fun A outer s H vs Q E p h1 hr hsp => hbody cdv A outer s H vs Q E p h1 hr hsp
end
/-- a def of the text that may raise, what it raises having no context -/
structure Dn (P : Program) (w : World) (K : PySem.W.Frag) (mg : Str → Option Value) (base : Heap) (x : Str) (k : Nat) (ps : List Str) (sp : Sp) where
  f : Addr
  fd : FuncData
  m : mg x = some (.ref f)
  kp : PySem.W.keepIn K (.ref f) = true
  b : Binds K fd ps []
  ok : FnOk P w K mg base (L2N.CX P w) k f fd ps sp
/-- C(e, ..) where nothing is handled: the record that is made has no context -/
theorem pmk_oexN {X : Cx} {e : Expr} {es : List Expr} {ta : TA} {p pos : Pos} {CX : CXT} {x : Str} {C fI : Addr} {k : Nat} {fd : FuncData} {ps : List Str} {sp : Sp} (T : OexC X.K C) (iC : PySem.W.findIn X.K (.ref C) "__init__" = some (some (.ref fI))) (tI : PySem.W.typeIn X.K (.ref fI) = some (.type "function"))
    (F1 : FnOk X.prog X.w X.K X.mg X.base CX k fI fd ps sp) (hr : Room (k + 1) X.A) (hb : Binds X.K fd ps []) (hx : Passes CX X (fun _ _ _ => False)) (hg : Gl X x) (hm : X.mg x = some (.ref C)) (ha : PA X (e :: es) ta)
    (hdb : (x == ("__debug__" : Str)) = false := by decide) (he : starEach (e :: es) X.env = (false, eval e X.env) :: starEach es X.env := by rfl) (hpl : (backTo pos (starEach es X.env)).any (·.1) = false := by rfl) :
    L2N.PMk X (.Call (.Name x p) (e :: es) [] pos) (tMkO C sp [] ta) := by
  intro pins s σ H Q I h
  obtain ⟨nm, q, N, bs, bm, sn, sub, ab, col, dd, c0, c1, c2, c3, c5, hC, hbm⟩ := T.cls
  refine wpAny_Call_Name_kw (ld_glob I hg hm ?_ hdb)
  refine PySem.W.callWith_K (h₀ := X.base) I.ok.mod.kin T.kC (thn (ha.run pos pins s σ H _ I h) fun us s1 ⟨vs, H1, I1, r1, hz, q1⟩ => ⟨I1.kIn, ?_⟩) he hpl
  show wpAny _ _ (call (.ref C) us) _ _ _
  obtain ⟨hp, g, dr, tk, os⟩ := s1
  have hsz : hp.objs.size ≤ hp.objs.size + 1 := Nat.le_succ _
  have hq := q1 (hp.objs.size + 1) (I1.hok.fresh hsz)
  rw [List.append_nil] at hq
  have kk : ∀ b o, hp.get? b = some o → ((hp.push (PySem.W.kdv_tup us)).push (PySem.HandSPX.excO C hp.objs.size)).get? b = some o := fun b o z => Heap.get?_push_of_some _ (Heap.get?_push_of_some _ z)
  have hget : ((hp.push (PySem.W.kdv_tup us)).push (PySem.HandSPX.excO C hp.objs.size)).get? (hp.objs.size + 1) = some (PySem.HandSPX.excO C hp.objs.size) := by heap_get
  have I2 : Inv X pins σ (upd H1 (hp.objs.size + 1) (exo (hp.objs.size + 1) C none)) ⟨(hp.push (PySem.W.kdv_tup us)).push (PySem.HandSPX.excO C hp.objs.size), g, dr, tk, os⟩ :=
    I1.laid (t' := tk) kk hsz (exo_ok hget)
  have r2 : Vals (V.ref (hp.objs.size + 1) :: vs) (Value.ref (hp.objs.size + 1) :: us) := .cons rfl r1
  have hl : (Value.ref (hp.objs.size + 1) :: us ++ []).length = ps.length := by
    have z := r2.length
    rw [F1.len _ _ _ _ hq] at z
    rw [List.append_nil]
    exact z.symm
  have hus : us.length ≤ sizeLine := by
    rw [← Paired.length r1, sizeLine_eq]
    omega
  have b2 := hb _ (Value.ref (hp.objs.size + 1) :: us) I2.kIn hl
  rw [List.append_nil] at b2
  refine wpAny_call (PySem.HandSPX.call_own F.excBase_ValueError (fun Y => PySem.HandSPX.refsVE_contains Y bm hbm) (I1.kIn _ _ hC) (PySem.W.looks_findIn I1.kIn iC) (fun self => PySem.W.bind_fn I1.kIn self tI) hus
    (codeAny_mono (F1.run _ X.stack _ _ ⟨Value.ref (hp.objs.size + 1) :: us, []⟩ (Value.ref (hp.objs.size + 1) :: us) _ _ (fun _ _ _ => False) (hr.make C us []) (I2.env0.make C us []) b2 r2 hq) fun r s' hq' => ?_))
  cases r with
  | error er => exact hx pins σ _ _ er s' I2 hq'
  | ok fl =>
    cases fl with
    | ret u =>
      obtain ⟨v, H2, os2, bare2, un2, hok2, rv, ev, d, fs, ea, ed, hd1, q2⟩ := hq'
      subst ev
      obtain ⟨h2, g2, d2, t2, os'⟩ := s'
      obtain ⟨t0, G, J, kG, ge, hoe, na⟩ := mk_end0 (d2 := d2) (t2 := t2) I1 hsz kk un2 hok2 os2 bare2 ea ed hd1
      exact ⟨rv, hp.objs.size + 1, _, _, ⟨G, g2, d2, t2, os'⟩, _, .ref C, some d, rfl, J, kG, ge, hoe, ⟨rfl, rfl, fun vs hv => by cases hv; rfl⟩, rfl, rfl, na, rfl, bare2, raises_own T.exC T.tyC, q2⟩
    | next => exact False.elim hq'
    | brk => exact False.elim hq'
    | cont => exact False.elim hq'

end Vf

set_option maxRecDepth 100000
set_option maxHeartbeats 4000000
/-! rules: a list or tuple walked; == of data; == by a class's own def; rows of ratios -/
namespace Vf
open PySem PySem.Spec PyProof.Rows L2
section
variable {X : Cx} {tg : Expr}
/-- a walk over a list or a tuple -/
def iSeq (K : PySem.W.Frag) (tl : TE) : TI := fun σ H R => tl σ H fun x H1 => ∃ a, x = .ref a ∧ ((∃ xs, SqL K H1 a xs ∧ R (Itl K a) H1) ∨ (∃ xs, SqT K H1 a xs ∧ R (Itt K a) H1))
theorem pi_seq {l : Expr} {tl : TE} (hl : PE X l tl) : PI X tg l (iSeq X.K tl) := by
  refine ⟨fun pins s σ H R I h => ?_⟩
  refine thn (hl.run pins s σ H _ I h) fun v s1 ⟨x, H1, I1, r1, q1⟩ => ?_
  obtain ⟨a, e, q1⟩ := q1
  subst e
  rcases q1 with ⟨xs, hq, q⟩ | ⟨xs, hq, q⟩
  · cases r1
    obtain ⟨its, rv, p, hz⟩ := I1.list hq
    refine wpAny_pyIter_list p.isList ?_
    refine ⟨s1.heap.objs.size, [s1.heap.objs.size], _, _, H1, rfl, I1.kept (t' := s1.toks) fun b o e => Heap.get?_push_of_some _ e, turn_list a _, ⟨_, Heap.get?_push_size _ rfl, rfl, rfl⟩, fun b hb => ?_, q⟩
    have e : b = s1.heap.objs.size := by simpa using hb
    subst e
    exact I1.fpOk (Nat.le_refl _) (I1.hok.fresh (Nat.le_refl _))
  · cases r1
    obtain ⟨its, rv, p, hz⟩ := I1.tuple hq
    refine wpAny_pyIter_tuple (show s1.heap.IsTuple a its.toArray from p) ?_
    refine ⟨s1.heap.objs.size, [s1.heap.objs.size], _, _, H1, rfl, I1.kept (t' := s1.toks) fun b o e => Heap.get?_push_of_some _ e, turn_tuple a _, ⟨_, Heap.get?_push_size _ rfl, rfl, rfl⟩, fun b hb => ?_, q⟩
    have e : b = s1.heap.objs.size := by simpa using hb
    subst e
    exact I1.fpOk (Nat.le_refl _) (I1.hok.fresh (Nat.le_refl _))
/-- list(x), told by its constants alone -/
def rListOf (K : PySem.W.Frag) : List V → Hp → VK → Prop := fun xs H Q => ∃ p ys, xs = [.ref p] ∧ (SqL K H p ys ∨ SqT K H p ys) ∧ ∀ l, H l = none → Q (.ref l) (upd H l (.lst ys))
theorem call_listK : CallR X (.type "list") (rListOf X.K) := call_list_of
/-- == and != of data without dicts -/
def rEqT (K : PySem.W.Frag) : R2 := fun x y H Q => ∃ d e, Dt K H x d ∧ Dt K H y e ∧ d.plain = true ∧ e.plain = true ∧ d.depth ≤ 60 ∧ Q (.bl (PyData.eqv d e)) H
def rNeT (K : PySem.W.Frag) : R2 := fun x y H Q => ∃ d e, Dt K H x d ∧ Dt K H y e ∧ d.plain = true ∧ e.plain = true ∧ d.depth ≤ 60 ∧ Q (.bl (!PyData.eqv d e)) H
theorem op_eqT (hu : X.A.units + 64 < cLine) (m : M1 X.base) : OpR X (compareOp .Eq) (rEqT X.K) := by
  intro pins s σ H x y v u Q I rx ry h
  obtain ⟨d, e, hd, he, pd, pe, hz, q⟩ := h
  obtain ⟨as, r1, _⟩ := Dt.reads I m hd rx
  obtain ⟨bs, r2, _⟩ := Dt.reads I m he ry
  exact SeqAt.eq_plain r1 r2 pd pe (by have := Nat.min_le_left d.depth e.depth; omega) ⟨.bl _, H, I, rfl, q⟩
theorem op_neT (hu : X.A.units + 64 < cLine) (m : M1 X.base) : OpR X (compareOp .NotEq) (rNeT X.K) := by
  intro pins s σ H x y v u Q I rx ry h
  obtain ⟨d, e, hd, he, pd, pe, hz, q⟩ := h
  obtain ⟨as, r1, _⟩ := Dt.reads I m hd rx
  obtain ⟨bs, r2, _⟩ := Dt.reads I m he ry
  exact SeqAt.ne_plain r1 r2 pd pe (by have := Nat.min_le_left d.depth e.depth; omega) ⟨.bl _, H, I, rfl, q⟩
/-- x == y, x of the class at C whose own == is at g -/
def rEqO (K : PySem.W.Frag) (C : Addr) (sp : Sp) (E : XK) : R2 := fun x y H Q => ∃ a dx fs t, x = .ref a ∧ H a = some (.ins C dx fs) ∧ TyX K H y t ∧ PySem.W.notFirst K C t = true ∧ sp [x, y] H Q E
theorem op_eqO {CX : CXT} {C g : Addr} {k : Nat} {fd : FuncData} {ps : List Str} {sp : Sp} {E : XK} (hs : PySem.W.findIn X.K (.ref C) "__eq__" = some (some (.ref g))) (hf : PySem.W.isFn X.K (.ref g) = true)
    (F : FnOk X.prog X.w X.K X.mg X.base CX k g fd ps sp) (hb : Binds X.K fd ps []) (hr : Room k X.A) (hx : Passes CX X E) : OpR X (compareOp .Eq) (rEqO X.K C sp E) := by
  intro pins s σ H x y v u Q I rx ry h
  obtain ⟨a, dx, fs, t, rfl, ha, ty, hn, q⟩ := h
  cases (show v = Value.ref a from rx)
  obtain ⟨mA, O, _⟩ := ins_get I.hok ha
  obtain ⟨od, J, _⟩ := O.look
  obtain ⟨P, Z, p, _⟩ := kit_of I ry ty
  obtain ⟨m, hF⟩ := I.fr
  refine PySem.W.cmp_K (op := .Eq) (tb := t) hr.units0 hF I.ok.mod.kin J (Z.ty _ _ I.kIn p) hn hs hf ?_
  have hsp : sp ([V.ref a, y] ++ []) H Q E := q
  refine wpAny_mono (run_fn (us := [.ref a, u]) (vs := [.ref a, y]) F hr hb .nil hx I (.cons rfl (.cons ry .nil)) hsp) (fun w s' z => ?_) fun _ _ x => x
  obtain ⟨z', H', I', rz, qz⟩ := z
  exact SlX.cmpback rz ⟨z', H', I', rz, qz⟩
end
/-- what is new in the second heap -/
def nw (H H' : Hp) : Hp := fun b => match H b with
  | some _ => none
  | none => H' b
theorem nw_at {H H' : Hp} {b : Addr} {o : HO} (h : H b = none) (e : H' b = some o) : nw H H' b = some o := by
  unfold nw
  rw [h]
  exact e
theorem nw_get {H H' : Hp} {b : Addr} {o : HO} (e : nw H H' b = some o) : H b = none ∧ H' b = some o := by
  unfold nw at e
  split at e
  · cases e
  · exact ⟨by assumption, e⟩
theorem nw_sub {H H' : Hp} : Same (nw H H') H' := fun b o e => (nw_get e).2
/-- the heap without l and p -/
def fz (l p : Addr) (H : Hp) : Hp := fun b => if b = l ∨ b = p then none else H b
theorem fz_at {l p b : Addr} {H : Hp} {o : HO} (h1 : b ≠ l) (h2 : b ≠ p) (e : H b = some o) : fz l p H b = some o := by
  unfold fz
  rw [if_neg (fun z => z.elim h1 h2)]
  exact e
theorem fz_get {l p b : Addr} {H : Hp} {o : HO} (e : fz l p H b = some o) : b ≠ l ∧ b ≠ p ∧ H b = some o := by
  unfold fz at e
  by_cases h : b = l ∨ b = p
  · rw [if_pos h] at e
    cases e
  · rw [if_neg h] at e
    exact ⟨fun z => h (.inl z), fun z => h (.inr z), e⟩
theorem fz_sub {l p : Addr} {H : Hp} : Same (fz l p H) H := fun b o e => (fz_get e).2.2
theorem fz_mono {l p : Addr} {H H' : Hp} (k : ∀ b o, b ≠ l → b ≠ p → H b = some o → H' b = some o) : Same (fz l p H) (fz l p H') := fun b o e => by
  obtain ⟨h1, h2, h3⟩ := fz_get e
  exact fz_at h1 h2 (k b o h1 h2 h3)
theorem nw_fz {l p : Addr} {H H' : Hp} {o1 o2 : HO} (hl : H l = some o1) (hp : H p = some o2) : Same (nw H H') (fz l p H') := fun b o e => by
  obtain ⟨h1, h2⟩ := nw_get e
  exact fz_at (fun z => by rw [z, hl] at h1; cases h1) (fun z => by rw [z, hp] at h1; cases h1) h2
theorem some_free {p b : Addr} {H H' : Hp} {o : HO} (k : ∀ c u, c ≠ p → H c = some u → H' c = some u) (hp : H' p = some o) (n : H' b = none) : H b = none := by
  cases e : H b with
  | none => rfl
  | some u =>
    by_cases h : b = p
    · rw [h, hp] at n
      cases n
    · rw [k b u h e] at n
      cases n
/-! ### rows of ratios -/
def pairD (p : Int × Int) : PyData := .tuple [.int p.1, .int p.2]
/-- a row without the zeros behind -/
def strip (l : List (Int × Int)) : List (Int × Int) := (l.reverse.dropWhile fun p => p.1 == 0).reverse
theorem strip_nil : strip [] = [] := rfl
theorem strip_snoc (l : List (Int × Int)) (x : Int × Int) : strip (l ++ [x]) = if x.1 = 0 then strip l else l ++ [x] := by
  unfold strip
  rw [List.reverse_append]
  simp only [List.reverse_cons, List.reverse_nil, List.nil_append, List.singleton_append, List.dropWhile_cons, beq_iff_eq]
  split
  · rfl
  · rw [List.reverse_cons, List.reverse_reverse]
theorem snoc_ind {α : Type} {P : List α → Prop} (h0 : P []) (hs : ∀ l x, P l → P (l ++ [x])) : ∀ l, P l := fun l => by
  have h : ∀ r : List α, P r.reverse := fun r => by
    induction r with
    | nil => exact h0
    | cons x r ih => rw [List.reverse_cons]; exact hs _ _ ih
  have z := h l.reverse
  rw [List.reverse_reverse] at z
  exact z
theorem snoc_cases {α : Type} (l : List α) : l = [] ∨ ∃ r x, l = r ++ [x] := snoc_ind (P := fun l => l = [] ∨ ∃ r x, l = r ++ [x]) (.inl rfl) (fun l x _ => .inr ⟨l, x, rfl⟩) l
theorem strip_last : ∀ {l r : List (Int × Int)} {x : Int × Int}, strip l = r ++ [x] → x.1 ≠ 0 := by
  intro l
  refine snoc_ind (P := fun l => ∀ {r : List (Int × Int)} {x : Int × Int}, strip l = r ++ [x] → x.1 ≠ 0) (fun {r x} h => by simp [strip_nil] at h) (fun l y ih {r x} h => ?_) l
  rw [strip_snoc] at h
  split at h
  · exact ih h
  · have z := (List.append_inj' h rfl).2
    cases z
    assumption
theorem strip_pre (l : List (Int × Int)) : ∃ r, l = strip l ++ r ∧ ∀ x ∈ r, x.1 = 0 := by
  refine snoc_ind (P := fun l => ∃ r, l = strip l ++ r ∧ ∀ x ∈ r, x.1 = 0) ⟨[], rfl, fun x h => by cases h⟩ (fun l y ih => ?_) l
  rw [strip_snoc]
  split
  · rename_i h0
    obtain ⟨r, e, hr⟩ := ih
    refine ⟨r ++ [y], by rw [← List.append_assoc, ← e], fun x hx => ?_⟩
    rcases List.mem_append.mp hx with z | z
    · exact hr x z
    · rw [List.mem_singleton.mp z]; exact h0
  · exact ⟨[], by simp, fun x h => by cases h⟩
theorem strip_mem {l : List (Int × Int)} {x : Int × Int} (h : x ∈ strip l) : x ∈ l := by
  obtain ⟨r, e, _⟩ := strip_pre l
  rw [e]
  exact List.mem_append.mpr (.inl h)
theorem strip_len (l : List (Int × Int)) : (strip l).length ≤ l.length := by
  obtain ⟨r, e, _⟩ := strip_pre l
  have := congrArg List.length e
  rw [List.length_append] at this
  omega
theorem strip_id {l : List (Int × Int)} (h : ∀ r x, l = r ++ [x] → x.1 ≠ 0) : strip l = l := by
  rcases snoc_cases l with e | ⟨r, x, e⟩
  · rw [e]; rfl
  · have z := h r x e
    rw [e, strip_snoc, if_neg z]
/-- tuples of two whole numbers each, at their addresses -/
inductive Tups (H : Hp) : List Addr → List (Int × Int) → Prop
  | nil : Tups H [] []
  | cons {a : Addr} {as : List Addr} {p : Int × Int} {ps : List (Int × Int)} : H a = some (.tup [.int p.1, .int p.2]) → Tups H as ps → Tups H (a :: as) (p :: ps)
theorem Tups.len {H : Hp} : ∀ {as : List Addr} {ps : List (Int × Int)}, Tups H as ps → as.length = ps.length
  | _, _, .nil => rfl
  | _, _, .cons _ t => congrArg (· + 1) t.len
theorem Tups.imp {H H' : Hp} (e : ∀ (a : Addr) (p : Int × Int), H a = some (.tup [.int p.1, .int p.2]) → H' a = some (.tup [.int p.1, .int p.2])) : ∀ {as : List Addr} {ps : List (Int × Int)}, Tups H as ps → Tups H' as ps
  | _, _, .nil => .nil
  | _, _, .cons h t => .cons (e _ _ h) (t.imp e)
theorem Tups.same {H H' : Hp} (e : Same H H') {as : List Addr} {ps : List (Int × Int)} (h : Tups H as ps) : Tups H' as ps := h.imp fun a p q => e _ _ q
theorem Tups.snoc {H : Hp} : ∀ {as : List Addr} {ps : List (Int × Int)} {a : Addr} {p : Int × Int}, Tups H as ps → H a = some (.tup [.int p.1, .int p.2]) → Tups H (as ++ [a]) (ps ++ [p])
  | _, _, _, _, .nil, h => .cons h .nil
  | _, _, _, _, .cons h t, h2 => .cons h (t.snoc h2)
theorem Tups.unsnoc {H : Hp} : ∀ {as : List Addr} {ps : List (Int × Int)} {p : Int × Int}, Tups H as (ps ++ [p]) → ∃ as' a, as = as' ++ [a] ∧ Tups H as' ps ∧ H a = some (.tup [.int p.1, .int p.2])
  | _, [], _, .cons h .nil => ⟨[], _, rfl, .nil, h⟩
  | _, _ :: _, _, .cons h t => by
    obtain ⟨as', a, e, t', h'⟩ := t.unsnoc
    exact ⟨_ :: as', a, by rw [e]; rfl, .cons h t', h'⟩
theorem Tups.dts {K : PySem.W.Frag} {H : Hp} : ∀ {as : List Addr} {ps : List (Int × Int)}, Tups H as ps → Dts K H (as.map V.ref) (ps.map pairD)
  | _, _, .nil => .nil
  | _, _, .cons h t => .cons (.tup (SqT.of h) (.cons (.int _) (.cons (.int _) .nil))) t.dts
theorem Tups.app {H : Hp} : ∀ {as bs : List Addr} {ps qs : List (Int × Int)}, Tups H as ps → Tups H bs qs → Tups H (as ++ bs) (ps ++ qs)
  | _, _, _, _, .nil, h => h
  | _, _, _, _, .cons a t, h => .cons a (t.app h)
theorem Tups.take {H : Hp} : ∀ {as : List Addr} {ps : List (Int × Int)} (n : Nat), Tups H as ps → Tups H (as.take n) (ps.take n)
  | _, _, 0, _ => .nil
  | _, _, _ + 1, .nil => .nil
  | _, _, n + 1, .cons a t => .cons a (t.take n)
theorem Tups.at {H : Hp} : ∀ {as : List Addr} {ps : List (Int × Int)} {i : Nat} {a : Addr}, Tups H as ps → as[i]? = some a → ∃ p, ps[i]? = some p ∧ H a = some (.tup [.int p.1, .int p.2])
  | _, _, _, _, .nil, e => by simp at e
  | _, _, 0, _, .cons h _, e => by simp at e; subst e; exact ⟨_, rfl, h⟩
  | _, _, i + 1, a, .cons _ t, e => by
    obtain ⟨d, h1, h2⟩ := t.at (i := i) (a := a) (by simpa using e)
    exact ⟨d, by simpa using h1, h2⟩
theorem eqv_pair (p q : Int × Int) : PyData.eqv (pairD p) (pairD q) = decide (p = q) := by
  obtain ⟨a, b⟩ := p
  obtain ⟨c, d⟩ := q
  unfold pairD
  simp only [PyData.eqv, PyData.eqvAll, Bool.and_true]
  by_cases h1 : a = c <;> by_cases h2 : b = d <;> simp [h1, h2]
theorem eqvAll_pairs : ∀ l r : List (Int × Int), PyData.eqvAll (l.map pairD) (r.map pairD) = decide (l = r)
  | [], [] => by simp [PyData.eqvAll]
  | [], _ :: _ => by simp [PyData.eqvAll]
  | _ :: _, [] => by simp [PyData.eqvAll]
  | p :: l, q :: r => by
    simp only [List.map_cons, PyData.eqvAll, eqv_pair, eqvAll_pairs l r]
    by_cases h1 : p = q <;> by_cases h2 : l = r <;> simp [h1, h2]
theorem eqv_row (l r : List (Int × Int)) : PyData.eqv (.tuple (l.map pairD)) (.tuple (r.map pairD)) = decide (l = r) := by
  simp only [PyData.eqv]
  exact eqvAll_pairs l r
theorem eqv_rowL (l r : List (Int × Int)) : PyData.eqv (.list (l.map pairD)) (.list (r.map pairD)) = decide (l = r) := by
  simp only [PyData.eqv]
  exact eqvAll_pairs l r
theorem plain_pairs : ∀ l : List (Int × Int), PyData.plainAll (l.map pairD) = true
  | [] => by simp only [List.map_nil, PyData.plainAll]
  | p :: l => by
    simp only [List.map_cons, PyData.plainAll, plain_pairs l, pairD, PyData.plain, Bool.and_self]
theorem plain_row (l : List (Int × Int)) : (PyData.tuple (l.map pairD)).plain = true ∧ (PyData.list (l.map pairD)).plain = true := by
  simp only [PyData.plain]
  exact ⟨plain_pairs l, plain_pairs l⟩
theorem depth_pairs : ∀ l : List (Int × Int), PyData.depthAll (l.map pairD) ≤ 1
  | [] => by simp only [List.map_nil, PyData.depthAll]; omega
  | p :: l => by
    have h := depth_pairs l
    simp only [List.map_cons, PyData.depthAll, pairD, PyData.depth]
    exact Nat.max_le.mpr ⟨by simp, h⟩
theorem depth_row (l : List (Int × Int)) : (PyData.tuple (l.map pairD)).depth ≤ 60 ∧ (PyData.list (l.map pairD)).depth ≤ 60 := by
  have h := depth_pairs l
  simp only [PyData.depth]
  omega
/-- a comprehension over a list or a tuple -/
theorem lc_seq {K : PySem.W.Frag} {a : Addr} {xs : List V} {g : TG} {tt : TT} {te : TE} {vs : List Nat} {σ : L2.St} {H1 : Hp} {Qd : Addr → Hp → Prop} (h : SqL K H1 a xs ∨ SqT K H1 a xs) (Pv : Addr → Nat → Hp → Prop)
    (h0 : ∀ D, H1 D = none → Pv D 0 (upd H1 D (.lst []))) (hl : ∀ D i H, H1 D = none → Pv D i H → (SqL K H1 a xs → SqL K H a xs) ∧ (SqT K H1 a xs → SqT K H a xs))
    (hs : ∀ D i x H, H1 D = none → xs[i]? = some x → Pv D i H → g x (wipe σ vs) H fun σ2 H2 => wipe σ2 vs = wipe σ vs ∧ tt σ2 H2 fun b H3 =>
      if b = true then te σ2 H3 fun y H4 => ∃ acc, H4 D = some (.lst acc) ∧ acc.length < sizeLine ∧ Pv D (i + 1) (upd H4 D (.lst (acc ++ [y]))) else Pv D (i + 1) H3) (hd : ∀ D H, H1 D = none → Pv D xs.length H → Qd D H) :
    (∃ xs, SqL K H1 a xs ∧ ∀ D, H1 D = none → ∃ W : Nat → Nat → Hp → Prop, (∃ m, W 0 m (upd H1 D (.lst []))) ∧ ∀ i m H, W i m H →
      (((Itl K a).stop i H ∧ Qd D H) ∨ ((Itl K a).go i H ∧ ∃ Nx : Hp → Prop, (∀ H', Nx H' → ∃ m', m' < m ∧ W (i + 1) m' H') ∧ ∀ x H', (Itl K a).yld i H x H' → g x (wipe σ vs) H' fun σ2 H2 => wipe σ2 vs = wipe σ vs ∧ tt σ2 H2 fun b H3 =>
        if b = true then te σ2 H3 fun y H4 => ∃ acc, H4 D = some (.lst acc) ∧ acc.length < sizeLine ∧ Nx (upd H4 D (.lst (acc ++ [y]))) else Nx H3))) ∨
    (∃ xs, SqT K H1 a xs ∧ ∀ D, H1 D = none → ∃ W : Nat → Nat → Hp → Prop, (∃ m, W 0 m (upd H1 D (.lst []))) ∧ ∀ i m H, W i m H →
      (((Itt K a).stop i H ∧ Qd D H) ∨ ((Itt K a).go i H ∧ ∃ Nx : Hp → Prop, (∀ H', Nx H' → ∃ m', m' < m ∧ W (i + 1) m' H') ∧ ∀ x H', (Itt K a).yld i H x H' → g x (wipe σ vs) H' fun σ2 H2 => wipe σ2 vs = wipe σ vs ∧ tt σ2 H2 fun b H3 =>
        if b = true then te σ2 H3 fun y H4 => ∃ acc, H4 D = some (.lst acc) ∧ acc.length < sizeLine ∧ Nx (upd H4 D (.lst (acc ++ [y]))) else Nx H3))) := by
  rcases h with h | h
  · exact .inl ⟨xs, h, fun D hD => lc_list (K := K) (a := a) (xs := xs) (Pv D) (h0 D hD) (fun i H _ p => (hl D i H hD p).1 h) (fun i x H hi p => hs D i x H hD hi p) (fun H p => hd D H hD p)⟩
  · exact .inr ⟨xs, h, fun D hD => lc_tup (K := K) (a := a) (xs := xs) (Pv D) (h0 D hD) (fun i H _ p => (hl D i H hD p).2 h) (fun i x H hi p => hs D i x H hD hi p) (fun H p => hd D H hD p)⟩
theorem strip_strip (l : List (Int × Int)) : strip (strip l) = strip l := strip_id fun r x h => strip_last h
end Vf

set_option maxRecDepth 100000
set_option maxHeartbeats 4000000
/-! zip and enumerate over lists and tuples alike, in loops and comprehensions -/
namespace Vf
open PySem PySem.Spec PyProof.Rows L2
/-- a list (true) or a tuple (false) of these items -/
def SqB (p : Bool) (K : PySem.W.Frag) (H : Hp) (a : Addr) (xs : List V) : Prop := match p with
  | true => SqL K H a xs
  | false => SqT K H a xs
def ItB (p : Bool) (h : Heap) (it a : Addr) (i : Nat) : Prop := match p with
  | true => h.IsListIter it a i
  | false => h.IsTupleIter it a i
def ArB (p : Bool) (h : Heap) (a : Addr) (items : Array Value) : Prop := match p with
  | true => h.IsList a items
  | false => h.IsTuple a items
theorem sqB_or {K : PySem.W.Frag} {H : Hp} {a : Addr} {xs : List V} (h : SqL K H a xs ∨ SqT K H a xs) : ∃ p, SqB p K H a xs := by
  rcases h with h | h
  · exact ⟨true, h⟩
  · exact ⟨false, h⟩
theorem sqB_to {p : Bool} {K : PySem.W.Frag} {H : Hp} {a : Addr} {xs : List V} (h : SqB p K H a xs) : SqL K H a xs ∨ SqT K H a xs := by
  cases p
  · exact .inr h
  · exact .inl h
theorem SqB.same {p : Bool} {K : PySem.W.Frag} {H H' : Hp} {a : Addr} {xs : List V} (h : SqB p K H a xs) (s : Same H H') : SqB p K H' a xs := by
  cases p
  · exact same_sqT s h
  · exact same_sqL s h
theorem drawsB {prog : Program} {w : World} {A : Around} (p : Bool) (hh : A.handled = none) (it l : Addr) (hne : l ≠ it) (items : Array Value) :
    Draws prog w A it [it, l] items.size (fun i v => items[i]? = some v) (fun i h => ItB p h it l i ∧ ArB p h l items) := by
  cases p
  · exact Draws.tuple hh it l hne items
  · exact Draws.list hh it l hne items
def obB (p : Bool) (a : Addr) : Obj := match p with
  | true => { cls := .type "list_iterator", data := .fields #[.ref a, .int 0 0] }
  | false => { cls := .type "tuple_iterator", data := .fields #[.ref a, .int 0 0] }
theorem beginsB (p : Bool) (a : Addr) (items : Array Value) : Begins (.ref a) (obB p a) fun h => ArB p h a items := by
  cases p
  · exact begins_tuple a items
  · exact begins_list a items
theorem itB_of {p : Bool} {h : Heap} {it a : Addr} (e : h.get? it = some (obB p a)) : ItB p h it a 0 := by
  cases p
  · exact ⟨_, e, rfl, rfl⟩
  · exact ⟨_, e, rfl, rfl⟩
theorem ItB.at {p : Bool} {h h' : Heap} {it a : Addr} {i : Nat} (st : ItB p h it a i) (k : ∀ o, h.get? it = some o → h'.get? it = some o) : ItB p h' it a i := by
  cases p
  · exact Heap.IsTupleIter.at st k
  · exact Heap.IsListIter.at st k
theorem ItB.obj {p : Bool} {h : Heap} {it a : Addr} {i : Nat} (st : ItB p h it a i) : ∃ o, h.get? it = some o ∧ ∀ v, o.data ≠ .cell v := by
  cases p
  · obtain ⟨o, e, _, d⟩ := st
    exact ⟨o, e, fun v z => by rw [d] at z; cases z⟩
  · obtain ⟨o, e, _, d⟩ := st
    exact ⟨o, e, fun v z => by rw [d] at z; cases z⟩
section
variable {X : Cx} {pins : List (Addr × Obj)} {σ : L2.St} {H : Hp} {s : Shared}
theorem seqB (I : Inv X pins σ H s) {p : Bool} {a : Addr} {xs : List V} (h : SqB p X.K H a xs) : ∃ its : List Value, Vals xs its ∧ ArB p s.heap a its.toArray := by
  cases p
  · obtain ⟨its, rv, q, _⟩ := I.tuple h
    exact ⟨its, rv, q⟩
  · obtain ⟨its, rv, q, _⟩ := I.list h
    exact ⟨its, rv, q.isList⟩
theorem seqB_inj (I : Inv X pins σ H s) {p : Bool} {a : Addr} {xs ys : List V} (h1 : SqB p X.K H a xs) (h2 : SqB p X.K H a ys) : xs = ys := by
  cases p
  · exact I.tuple_inj h1 h2
  · exact I.list_inj h1 h2
theorem ArB.lt {p : Bool} {h : Heap} {a : Addr} {its : Array Value} (q : ArB p h a its) : a < h.objs.size := by
  cases p
  · obtain ⟨o, e, _⟩ := q
    exact Heap.lt_size e
  · obtain ⟨o, e, _⟩ := q
    exact Heap.lt_size e
end
/-- the lists or tuples at a and b as they stand at each turn, the items in new pairs -/
def ItzB (p q : Bool) (K : PySem.W.Frag) (a b : Addr) : It :=
  ⟨fun i H => ∃ (xs ys : List V) (x y : V), SqB p K H a xs ∧ SqB q K H b ys ∧ xs[i]? = some x ∧ ys[i]? = some y,
    fun i H v H' => ∃ T x y, v = .ref T ∧ H T = none ∧ H' = upd H T (.tup [x, y]) ∧ (∀ xs, SqB p K H a xs → xs[i]? = some x) ∧ ∀ ys, SqB q K H b ys → ys[i]? = some y,
    fun i H => ∃ xs ys : List V, SqB p K H a xs ∧ SqB q K H b ys ∧ i ≤ xs.length ∧ i ≤ ys.length ∧ (xs.length = i ∨ ys.length = i)⟩
theorem sepB {a b z TI TO i1 i2 : Addr} (D : ZipApart z TI TO i1 i2 a b) : ZipSep2 z TI TO i1 i2 [i1, a] [i2, b] where
  TIz := D.TIz
  TOz := D.TOz
  TITO := D.TITO
  TIi1 := D.TIi1
  mem1 := by simp
  zf1 := by simp [D.i1z.symm, D.l1z.symm]
  Tf1 := by simp [D.TOi1, D.l1TO.symm]
  TIi2 := D.TIi2
  mem2 := by simp
  zf2 := by simp [D.i2z.symm, D.l2z.symm]
  Tf2 := by simp [D.TOi2, D.l2TO.symm]
  sep1_2 := by simp [D.i12, D.l2i1.symm]
  sep2_1 := by simp [D.i12.symm, D.l1i2.symm]
theorem turn_zipB {P : Program} {w : World} {K : PySem.W.Frag} {elts : List Expr} {kk : Nat} {tpos : Pos} (p q : Bool) {a b z TI TO i1 i2 : Addr} (D : ZipApart z TI TO i1 i2 a b) :
    Turn P w K (.Tuple elts kk tpos) (ItzB p q K a b) [z, TI, TO, i1, i2] z (fun i h => IsZip h z TI TO .none ∧ IsPair h TI (.ref i1) (.ref i2) ∧ (∃ x y, IsPair h TO x y) ∧ ItB p h i1 a i ∧ ItB q h i2 b i) where
  mem := by simp
  obj := fun i h st c hc => by
    obtain ⟨hz, hTI, ⟨x, y, hTO⟩, h1, h2⟩ := st
    have e' : c = z ∨ c = TI ∨ c = TO ∨ c = i1 ∨ c = i2 := by simpa using hc
    rcases e' with q | q | q | q | q
    · rw [q]; exact ⟨_, hz, fun v q => nomatch q⟩
    · rw [q]; exact ⟨_, hTI, fun v q => nomatch q⟩
    · rw [q]; exact ⟨_, hTO, fun v q => nomatch q⟩
    · rw [q]; exact h1.obj
    · rw [q]; exact h2.obj
  keep := fun i h h' st k => by
    obtain ⟨hz, hTI, ⟨x, y, hTO⟩, h1, h2⟩ := st
    exact ⟨k z (by simp) _ hz, k TI (by simp) _ hTI, ⟨x, y, k TO (by simp) _ hTO⟩, h1.at fun o q => k i1 (by simp) o q, h2.at fun o q => k i2 (by simp) o q⟩
  item := by
    intro X hP hw hK hc i pins s σ H E I hf st hg
    subst hP hw hK
    obtain ⟨hz, hTI, ⟨x0, y0, hTO⟩, h1, h2⟩ := st
    obtain ⟨xs, ys, x, y, hqx, hqy, hx, hy⟩ := hg
    obtain ⟨its, rv, p1⟩ := seqB I hqx
    obtain ⟨its2, rv2, p2⟩ := seqB I hqy
    obtain ⟨u, hu, ru⟩ := rv.get hx
    obtain ⟨u2, hu2, ru2⟩ := rv2.get hy
    have hzl : z < s.heap.objs.size := Heap.lt_size hz
    have hh : X.A.in1.handled = none := I.ok.hd hc
    have l1 : i < its.toArray.size := by
      have := (List.getElem?_eq_some_iff.mp hu).1
      simpa using this
    have l2 : i < its2.toArray.size := by
      have := (List.getElem?_eq_some_iff.mp hu2).1
      simpa using this
    refine wpAny_pyNext_zipD2_item (sepB D) (drawsB p hh i1 a D.l1i1 its.toArray) (drawsB q hh i2 b D.l2i2 its2.toArray) hz hTI hTO ⟨h1, p1⟩ ⟨h2, p2⟩ l1 l2 fun u' u2' h' tk e1 e2 z' TO' h1' h2' hT hsz hk => ?_
    have eu : u' = u := by
      rw [List.getElem?_toArray, hu] at e1
      exact (Option.some.inj e1).symm
    have eu2 : u2' = u2 := by
      rw [List.getElem?_toArray, hu2] at e2
      exact (Option.some.inj e2).symm
    subst eu eu2
    refine ⟨_, rfl, wpAny_letOwnedTupleGo_zip (s := { s with heap := h', toks := tk }) z' fun h'' z'' sb => ?_⟩
    have hT2 : h''.get? s.heap.objs.size = some { cls := .type "tuple", data := .seq #[u', u2'] } := (sb.2 _ (Nat.ne_of_gt hzl)).trans hT
    have new : ObjOk X.prog X.w (upd H s.heap.objs.size (.tup [x, y])) h'' s.heap.objs.size (.tup [x, y]) :=
      ⟨by show 2 ≤ sizeLine; decide, [u', u2'], .cons ru (.cons ru2 .nil), ⟨_, hT2, rfl, _, rfl⟩⟩
    have I1 : Inv X pins σ (upd H s.heap.objs.size (.tup [x, y])) { s with heap := h'', toks := tk } :=
      I.turnedNew (t' := tk) (ch := [z, TI, TO, i1, i2]) (fun c o hb q => (sb.2 c (fun q' => hb (by simp [q']))).trans (hk c o (fun q' => hb (by simp [q'])) (fun q' => hb (by simp [q'])) (fun q' => hb (by simp [q'])) (fun q' => hb (by simp [q'])) q)) hf (Nat.le_refl _) new
    refine ⟨.ref s.heap.objs.size, _, I1, rfl, ⟨_, x, y, rfl, I.hok.fresh (Nat.le_refl _), rfl, fun l hl => by rw [seqB_inj I hl hqx]; exact hx, fun l hl => by rw [seqB_inj I hl hqy]; exact hy⟩, ⟨z'', ?_, ⟨u', u2', ?_⟩, ?_, ?_⟩, fun c hcm => ?_⟩
    · exact (sb.2 _ D.TIz).trans (hk _ _ D.TIz D.TITO D.TIi1 D.TIi2 hTI)
    · exact (sb.2 _ D.TOz).trans TO'
    · exact h1'.1.at fun o q => (sb.2 _ D.i1z).trans q
    · exact h2'.1.at fun o q => (sb.2 _ D.i2z).trans q
    · have hlt : c < s.heap.objs.size := by
        have e' : c = z ∨ c = TI ∨ c = TO ∨ c = i1 ∨ c = i2 := by simpa using hcm
        rcases e' with q | q | q | q | q
        · rw [q]; exact hzl
        · rw [q]; exact Heap.lt_size hTI
        · rw [q]; exact Heap.lt_size hTO
        · rw [q]; obtain ⟨_, e1, _⟩ := h1.obj; exact Heap.lt_size e1
        · rw [q]; obtain ⟨_, e1, _⟩ := h2.obj; exact Heap.lt_size e1
      rw [upd_ne (Nat.ne_of_lt hlt)]
      exact (hf c hcm).1
  done := by
    intro X hP hw hK hc i pins s σ H E I hf st hg
    subst hP hw hK
    obtain ⟨hz, hTI, ⟨x0, y0, hTO⟩, h1, h2⟩ := st
    obtain ⟨xs, ys, hqx, hqy, le1, le2, hend⟩ := hg
    obtain ⟨its, rv, p1⟩ := seqB I hqx
    obtain ⟨its2, rv2, p2⟩ := seqB I hqy
    have l1 := rv.length
    have l2 := rv2.length
    have hh : X.A.in1.handled = none := I.ok.hd hc
    have s1 : its.toArray.size = its.length := by simp
    have s2 : its2.toArray.size = its2.length := by simp
    refine wpAny_pyNext_zipD2_end (sepB D) (drawsB p hh i1 a D.l1i1 its.toArray) (drawsB q hh i2 b D.l2i2 its2.toArray) hz hTI hTO ⟨h1, p1⟩ ⟨h2, p2⟩ (by rw [s1]; omega) (by rw [s2]; omega) (by rw [s1, s2]; omega) fun h' tk hk => ⟨rfl, I.turnedL (t' := tk) (ch := [z, TI, TO, i1, i2]) (fun c o hb q =>
      hk c o (fun q' => hb (by simp [q'])) (fun q' => hb (by simp [q'])) (fun q' => hb (by simp [q'])) (fun q' => hb (by simp [q'])) q) hf⟩
  self := fun A i s Q E st h => wpAny_pyIter_zip st.1 h
def iZipB (K : PySem.W.Frag) (ta : TA) : TI := fun σ H R => ta σ H fun vs H1 => ∃ p q a b xs ys, vs = [.ref a, .ref b] ∧ SqB p K H1 a xs ∧ SqB q K H1 b ys ∧ R (ItzB p q K a b) H1
theorem pi_zipB {X : Cx} {e e2 : Expr} {ta : TA} {p pos tpos : Pos} {elts : List Expr} {kk : Nat} (hg : Gl X "zip") (hm : X.mg "zip" = none) (ha : PA X [e, e2] ta)
    (hs : starEach [e, e2] X.env = (false, eval e X.env) :: starEach [e2] X.env := by rfl) (hpl : (backTo pos (starEach [e2] X.env)).any (·.1) = false := by rfl) :
    PI X (.Tuple elts kk tpos) (.Call (.Name "zip" p) [e, e2] [] pos) (iZipB X.K ta) := by
  refine ⟨fun pins s σ H R I h => ?_⟩
  refine Call_ (ld_blt I hg hm PyProof.Rows.boot_zip (PyProof.Rows.callWith_type1 (thn (ha.run pos pins s σ H _ I h) fun us s1 ⟨vs, H1, I1, r1, q1⟩ => ?_) hs hpl))
  obtain ⟨p, q, a, b, xs, ys, ex, hqx, hqy, g⟩ := q1
  subst ex
  cases r1 with
  | cons r rr =>
    cases rr with
    | cons r' rr =>
      cases rr
      cases r
      cases r'
      have fresh5 : ∀ c, c ∈ [s1.heap.objs.size + 4, s1.heap.objs.size + 2, s1.heap.objs.size + 3, s1.heap.objs.size, s1.heap.objs.size + 1] → FpOk X pins H1 c := fun c hcm => by
        have e' : c = s1.heap.objs.size + 4 ∨ c = s1.heap.objs.size + 2 ∨ c = s1.heap.objs.size + 3 ∨ c = s1.heap.objs.size ∨ c = s1.heap.objs.size + 1 := by simpa using hcm
        have hle : s1.heap.objs.size ≤ c := by
          rcases e' with z | z | z | z | z
          · rw [z]; exact Nat.le_add_right _ _
          · rw [z]; exact Nat.le_add_right _ _
          · rw [z]; exact Nat.le_add_right _ _
          · rw [z]; exact Nat.le_refl _
          · rw [z]; exact Nat.le_add_right _ _
        exact I1.fpOk hle (I1.hok.fresh hle)
      obtain ⟨its, rv, p1⟩ := seqB I1 hqx
      obtain ⟨its2, rv2, p2⟩ := seqB I1 hqy
      refine zip_begins2 (beginsB p a its.toArray) (beginsB q b its2.toArray) p1 p2 fun h' hz hTI hTO h1 h2 hsz hk => wpAny_pyIter_zip hz ?_
      have I2 : Inv X pins σ H1 { s1 with heap := h' } := I1.kept (t' := s1.toks) hk
      exact ⟨s1.heap.objs.size + 4, [s1.heap.objs.size + 4, s1.heap.objs.size + 2, s1.heap.objs.size + 3, s1.heap.objs.size, s1.heap.objs.size + 1], _, _, H1, rfl, I2, turn_zipB p q (PySem.W.ktu_apart s1.heap.objs.size a b p1.lt p2.lt), ⟨hz, hTI, ⟨_, _, hTO⟩, itB_of h1, itB_of h2⟩, fresh5, g⟩
/-- a comprehension over zip of two rows alike in length -/
theorem lc_zipB {p q : Bool} {K : PySem.W.Frag} {a b : Addr} {xs ys : List V} {g : TG} {tt : TT} {te : TE} {vs : List Nat} {σ : L2.St} {H1 : Hp} {D : Addr} {Qd : Hp → Prop} (hl : xs.length = ys.length) (Pv : Nat → Hp → Prop) (h0 : Pv 0 (upd H1 D (.lst [])))
    (hq : ∀ i H, Pv i H → SqB p K H a xs ∧ SqB q K H b ys)
    (hs : ∀ (i : Nat) (x y : V) (T : Addr) (H : Hp), xs[i]? = some x → ys[i]? = some y → Pv i H → H T = none → g (.ref T) (wipe σ vs) (upd H T (.tup [x, y])) fun σ2 H2 => wipe σ2 vs = wipe σ vs ∧ tt σ2 H2 fun b H3 =>
      if b = true then te σ2 H3 fun y H4 => ∃ acc, H4 D = some (.lst acc) ∧ acc.length < sizeLine ∧ Pv (i + 1) (upd H4 D (.lst (acc ++ [y]))) else Pv (i + 1) H3) (hd : ∀ H, Pv xs.length H → Qd H) :
    ∃ W : Nat → Nat → Hp → Prop, (∃ m, W 0 m (upd H1 D (.lst []))) ∧ ∀ i m H, W i m H →
      (((ItzB p q K a b).stop i H ∧ Qd H) ∨ ((ItzB p q K a b).go i H ∧ ∃ Nx : Hp → Prop, (∀ H', Nx H' → ∃ m', m' < m ∧ W (i + 1) m' H') ∧ ∀ x H', (ItzB p q K a b).yld i H x H' → g x (wipe σ vs) H' fun σ2 H2 => wipe σ2 vs = wipe σ vs ∧ tt σ2 H2 fun b H3 =>
        if b = true then te σ2 H3 fun y H4 => ∃ acc, H4 D = some (.lst acc) ∧ acc.length < sizeLine ∧ Nx (upd H4 D (.lst (acc ++ [y]))) else Nx H3)) := by
  refine ⟨fun i m H => m = xs.length - i ∧ i ≤ xs.length ∧ Pv i H, ⟨xs.length, by simp, Nat.zero_le _, h0⟩, ?_⟩
  rintro i m H ⟨rfl, hi, pv⟩
  obtain ⟨qx, qy⟩ := hq i H pv
  by_cases hlt : i < xs.length
  · have hx : xs[i]? = some xs[i] := List.getElem?_eq_getElem hlt
    have hlt2 : i < ys.length := by omega
    have hy : ys[i]? = some ys[i] := List.getElem?_eq_getElem hlt2
    refine .inr ⟨⟨xs, ys, xs[i], ys[i], qx, qy, hx, hy⟩, Pv (i + 1), fun H' p' => ⟨xs.length - (i + 1), by omega, rfl, hlt, p'⟩, fun v H' y => ?_⟩
    obtain ⟨T, x', y', e1, n, e2, h1, h2⟩ := y
    rw [e1, e2]
    exact hs i x' y' T H (h1 xs qx) (h2 ys qy) pv n
  · have e : i = xs.length := by omega
    subst e
    exact .inl ⟨⟨xs, ys, qx, qy, Nat.le_refl _, by omega, .inl rfl⟩, hd H pv⟩
/-- a loop over zip of two rows alike in length -/
theorem for_zipB {p q : Bool} {K : PySem.W.Frag} {a b : Addr} {xs ys : List V} {g : TG} {tb : TS} {D : Ends} {σ : L2.St} {H : Hp} (hl : xs.length = ys.length) (Pv : Nat → L2.St → Hp → Prop) (h0 : Pv 0 σ H) (hq : ∀ i σ H, Pv i σ H → SqB p K H a xs ∧ SqB q K H b ys)
    (hs : ∀ (i : Nat) (x y : V) (T : Addr) (σ : L2.St) (H : Hp), xs[i]? = some x → ys[i]? = some y → Pv i σ H → H T = none → g (.ref T) σ (upd H T (.tup [x, y])) fun σ2 H2 => tb { D with nx := Pv (i + 1), ct := Pv (i + 1), bk := D.nx } σ2 H2) (hd : ∀ σ H, Pv xs.length σ H → D.nx σ H) :
    ∃ W : Nat → Nat → L2.St → Hp → Prop, (∃ m, W 0 m σ H) ∧ ∀ i m σ H, W i m σ H →
      ((ItzB p q K a b).stop i H ∧ D.nx σ H) ∨ ((ItzB p q K a b).go i H ∧ ∃ N : L2.St → Hp → Prop, (∀ σ' H', N σ' H' → ∃ m', m' < m ∧ W (i + 1) m' σ' H') ∧ ∀ v H', (ItzB p q K a b).yld i H v H' → g v σ H' fun σ2 H2 => tb { D with nx := N, ct := N, bk := D.nx } σ2 H2) := by
  refine ⟨fun i m σ H => m = xs.length - i ∧ i ≤ xs.length ∧ Pv i σ H, ⟨xs.length, rfl, Nat.zero_le _, h0⟩, ?_⟩
  rintro i m σ H ⟨rfl, hi, pv⟩
  obtain ⟨qx, qy⟩ := hq i σ H pv
  by_cases hlt : i < xs.length
  · have hx : xs[i]? = some xs[i] := List.getElem?_eq_getElem hlt
    have hlt2 : i < ys.length := by omega
    have hy : ys[i]? = some ys[i] := List.getElem?_eq_getElem hlt2
    refine .inr ⟨⟨xs, ys, _, _, qx, qy, hx, hy⟩, Pv (i + 1), fun σ' H' p' => ⟨xs.length - (i + 1), by omega, rfl, hlt, p'⟩, fun v H' y => ?_⟩
    obtain ⟨T, x', y', rfl, hT, rfl, f1, f2⟩ := y
    exact hs i x' y' T σ H (f1 xs qx) (f2 ys qy) pv hT
  · have e : i = xs.length := by omega
    subst e
    exact .inl ⟨⟨xs, ys, qx, qy, Nat.le_refl _, by omega, .inl rfl⟩, hd σ H pv⟩
/-! ### enumerate -/
def IteB (p : Bool) (K : PySem.W.Frag) (a : Addr) : It :=
  ⟨fun i H => ∃ (xs : List V) (x : V), SqB p K H a xs ∧ xs[i]? = some x, fun i H v H' => ∃ T x, v = .ref T ∧ H T = none ∧ H' = upd H T (.tup [.int (i : Nat), x]) ∧ ∀ xs, SqB p K H a xs → xs[i]? = some x, fun i H => ∃ xs : List V, SqB p K H a xs ∧ xs.length = i⟩
theorem turn_enumB {P : Program} {w : World} {K : PySem.W.Frag} {elts : List Expr} {kk : Nat} {tpos : Pos} (p : Bool) (a e it : Addr) (hae : a ≠ e) (hai : a ≠ it) :
    Turn P w K (.Tuple elts kk tpos) (IteB p K a) [e, it] e (fun i h => (∃ old, IsEnum h e it ((i : Nat) : Int) old) ∧ ItB p h it a i ∧ e ≠ it) where
  mem := by simp
  obj := fun i h st b hb => by
    obtain ⟨⟨old, he⟩, h1, _⟩ := st
    have e' : b = e ∨ b = it := by simpa using hb
    rcases e' with z | z
    · rw [z]; exact ⟨_, he, fun v q => nomatch q⟩
    · rw [z]; exact h1.obj
  keep := fun i h h' st k => let ⟨⟨old, he⟩, hi, hne⟩ := st; ⟨⟨old, k e (by simp) _ he⟩, hi.at fun o q => k it (by simp) o q, hne⟩
  item := by
    intro X hP hw hK hc i pins s σ H E I hf st hg
    subst hP hw hK
    obtain ⟨⟨old, he⟩, hit, hne⟩ := st
    obtain ⟨xs, x, hq, hx⟩ := hg
    obtain ⟨its, rv, p1⟩ := seqB I hq
    obtain ⟨u, hu, ru⟩ := rv.get hx
    have hel : e < s.heap.objs.size := Heap.lt_size he
    have hil : it < s.heap.objs.size := by obtain ⟨_, q, _⟩ := hit.obj; exact Heap.lt_size q
    have hh : X.A.in1.handled = none := I.ok.hd hc
    have l1 : i < its.toArray.size := by
      have := (List.getElem?_eq_some_iff.mp hu).1
      simpa using this
    refine wpAny_pyNext_enum_itemD (drawsB p hh it a hai its.toArray) he ⟨hit, p1⟩ l1 hne (by simp [hne, hae.symm]) fun u' h' tk e1 ho hit' hT hsz hk => ?_
    have eu : u' = u := by
      rw [List.getElem?_toArray, hu] at e1
      exact (Option.some.inj e1).symm
    subst eu
    refine ⟨_, rfl, wpAny_letOwnedTupleGo_enum (s := { s with heap := h', toks := tk + 1 }) ho fun h'' he' sb => ?_⟩
    have hT2 : h''.get? s.heap.objs.size = some { cls := .type "tuple", data := .seq #[.int i tk, u'] } := (sb.2 _ (Nat.ne_of_gt hel)).trans hT
    have new : ObjOk X.prog X.w (upd H s.heap.objs.size (.tup [.int (i : Nat), x])) h'' s.heap.objs.size (.tup [.int (i : Nat), x]) :=
      ⟨by show 2 ≤ sizeLine; decide, [.int i tk, u'], .cons ⟨_, rfl⟩ (.cons ru .nil), ⟨_, hT2, rfl, _, rfl⟩⟩
    have I1 : Inv X pins σ (upd H s.heap.objs.size (.tup [.int (i : Nat), x])) { s with heap := h'', toks := tk + 1 } :=
      I.turnedNew (ch := [e, it]) (fun b ob hb q => (sb.2 b (fun z => hb (by simp [z]))).trans (hk b ob (fun z => hb (by simp [z])) (fun z => hb (by simp [z])) q)) hf (Nat.le_refl _) new
    refine ⟨.ref s.heap.objs.size, _, I1, rfl, ⟨_, x, rfl, I.hok.fresh (Nat.le_refl _), rfl, fun ys hy => by rw [seqB_inj I hy hq]; exact hx⟩, ⟨⟨u', ?_⟩, hit'.1.at fun o q => (sb.2 it (Ne.symm hne)).trans q, hne⟩, fun b hb => ?_⟩
    · have e1 : ((i + 1 : Nat) : Int) = (i : Int) + 1 := by omega
      rw [e1]; exact he'
    · have hb' : b < s.heap.objs.size := by
        have e' : b = e ∨ b = it := by simpa using hb
        rcases e' with z | z
        · rw [z]; exact hel
        · rw [z]; exact hil
      rw [upd_ne (Nat.ne_of_lt hb')]
      exact (hf b hb).1
  done := by
    intro X hP hw hK hc i pins s σ H E I hf st hg
    subst hP hw hK
    obtain ⟨⟨old, he⟩, hit, hne⟩ := st
    obtain ⟨xs, hq, hx⟩ := hg
    obtain ⟨its, rv, p1⟩ := seqB I hq
    obtain ⟨f0, f1, f2, f3, f4, f5⟩ := hf it (by simp)
    have hl := rv.length
    have hh : X.A.in1.handled = none := I.ok.hd hc
    have s1 : its.toArray.size = i := by simp; omega
    refine wpAny_pyNext_enum_endD (drawsB p hh it a hai its.toArray) he (by rw [s1]; exact ⟨hit, p1⟩) fun h' eb => ⟨rfl, I.turned (t' := s.toks) (fun b o hb q => eb b o hb q) f0 f1 f3 f4 f5⟩
  self := fun A i s Q E st h => let ⟨⟨_, he⟩, _⟩ := st; wpAny_pyIter_enum he h
theorem meets_enumerate_newB1 {v : Value} {o : Obj} {H : Heap → Prop} (B : Begins v o H) :
    Meets (Builtin.«enumerate.__new__» ⟨[.type "enumerate", v], []⟩) (fun _ R s => H s.heap ∧
      R (.ok (.ret (.ref (s.heap.push o).objs.size))) { s with heap := (s.heap.push o).push { cls := .type "enumerate", data := .fields #[.none, .bool false, .ref s.heap.objs.size, rawInt 0, .none, .none] } }) :=
  .of_wp fun prog w A R s h => by
    obtain ⟨hp, g, d, tk, os⟩ := s; obtain ⟨h1, h⟩ := h
    have hsub := sub_enumerate
    have q1 : ∀ {A' : Around} {E : Value → Shared → Prop} {Q : Value → Shared → Prop}, Q (.ref hp.objs.size) ⟨hp.push o, g, d, tk, os⟩ → wpAny (model prog w) A' (pyIter v) Q E ⟨hp, g, d, tk, os⟩ :=
      fun q => B.iter prog w _ _ ⟨hp, g, d, tk, os⟩ _ h1 q
    wp_walk using q1
    first
      | exact ⟨_, rfl, h⟩
      | (refine wpAny_stack_any fun st => wpAny_pure ?_
         split
         · rename_i c _ _ _ _ _
           cases (c == Value.type "enumerate")
           · wp_walk using q1
             exact ⟨_, rfl, h⟩
           · wp_walk using q1
             exact ⟨_, rfl, h⟩
         · wp_walk using q1
           exact ⟨_, rfl, h⟩)
section
variable {prog : Program} {w : World} {A : Around} {E : Value → Shared → Prop} {s : Shared}
theorem enum_begins1 {v : Value} {o : Obj} {H : Heap → Prop} {Q : Value → Shared → Prop} (B : Begins v o H) (h1 : H s.heap)
    (h : ∀ h', IsEnum h' (s.heap.objs.size + 1) s.heap.objs.size 0 .none → h'.get? s.heap.objs.size = some o → h'.objs.size = s.heap.objs.size + 2 →
      (∀ b o, s.heap.get? b = some o → h'.get? b = some o) → Q (.ref (s.heap.objs.size + 1)) { s with heap := h' }) :
    wpAny (model prog w) A (call (.type "enumerate") [v]) Q E s := by
  refine callType_new F.called_enumerate (by decide) (F.typeCall_enumerate_1 _) (F.newCall_enumerate_1 _) (fun obj => F.args_object_init_2 obj _) F.entry_enumerate_new
    (meets_enumerate_newB1 B) ⟨h1, ?_⟩
  have hz : (s.heap.push o).objs.size = s.heap.objs.size + 1 := Heap.size_push ..
  show _ ∧ _
  rw [hz]
  have he : IsEnum ((s.heap.push o).push { cls := .type "enumerate", data := .fields #[.none, .bool false, .ref s.heap.objs.size, rawInt 0, .none, .none] }) (s.heap.objs.size + 1) s.heap.objs.size 0 .none := by
    have := Heap.get?_push_size (s.heap.push o) (o := { cls := .type "enumerate", data := .fields #[.none, .bool false, .ref s.heap.objs.size, rawInt 0, .none, .none] }) rfl
    rw [hz] at this; exact this
  refine ⟨⟨_, he, rfl⟩, h _ he (Heap.get?_push_of_some _ (Heap.get?_push_size _ B.free)) (by rw [Heap.size_push, hz]) fun b o x => Heap.get?_push_of_some _ (Heap.get?_push_of_some _ x)⟩
end
def iEnumB (K : PySem.W.Frag) (ta : TA) : TI := fun σ H R => ta σ H fun vs H1 => ∃ p a xs, vs = [.ref a] ∧ SqB p K H1 a xs ∧ R (IteB p K a) H1
theorem pi_enumB {X : Cx} {e : Expr} {ta : TA} {p pos tpos : Pos} {elts : List Expr} {kk : Nat} (hg : Gl X "enumerate") (hm : X.mg "enumerate" = none) (ha : PA X [e] ta) (hs : starEach [e] X.env = [(false, eval e X.env)] := by rfl) :
    PI X (.Tuple elts kk tpos) (.Call (.Name "enumerate" p) [e] [] pos) (iEnumB X.K ta) := by
  refine ⟨fun pins s σ H R I h => ?_⟩
  refine Call_ (ld_blt I hg hm boot_enumerate (PyProof.Rows.callWith_type1 (thn (ha.run pos pins s σ H _ I h) fun us s1 ⟨vs, H1, I1, r1, q1⟩ => ?_) hs rfl))
  obtain ⟨p, a, xs, ex, hq, q⟩ := q1
  subst ex
  cases r1 with
  | cons r rr =>
    cases rr
    cases r
    obtain ⟨its, rv, p1⟩ := seqB I1 hq
    have al := p1.lt
    refine enum_begins1 (beginsB p a its.toArray) p1 fun h' he hit hsz hk => wpAny_pyIter_enum he ?_
    have I2 : Inv X pins σ H1 { s1 with heap := h' } := I1.kept (t' := s1.toks) hk
    refine ⟨s1.heap.objs.size + 1, [s1.heap.objs.size + 1, s1.heap.objs.size], _, _, H1, rfl, I2, turn_enumB p a (s1.heap.objs.size + 1) s1.heap.objs.size (Nat.ne_of_lt (Nat.lt_of_lt_of_le al (Nat.le_add_right _ _))) (Nat.ne_of_lt al), ⟨⟨.none, he⟩, itB_of hit, Nat.succ_ne_self _⟩, fun b hb => ?_, q⟩
    have e' : b = s1.heap.objs.size + 1 ∨ b = s1.heap.objs.size := by simpa using hb
    have hle : s1.heap.objs.size ≤ b := by
      rcases e' with z | z
      · rw [z]; exact Nat.le_add_right _ _
      · rw [z]; exact Nat.le_refl _
    exact I1.fpOk hle (I1.hok.fresh hle)
/-- a comprehension over enumerate of a row -/
theorem lc_enumB {p : Bool} {K : PySem.W.Frag} {a : Addr} {xs : List V} {g : TG} {tt : TT} {te : TE} {vs : List Nat} {σ : L2.St} {H1 : Hp} {D : Addr} {Qd : Hp → Prop} (Pv : Nat → Hp → Prop) (h0 : Pv 0 (upd H1 D (.lst [])))
    (hq : ∀ i H, Pv i H → SqB p K H a xs)
    (hs : ∀ (i : Nat) (x : V) (T : Addr) (H : Hp), xs[i]? = some x → Pv i H → H T = none → g (.ref T) (wipe σ vs) (upd H T (.tup [.int (i : Nat), x])) fun σ2 H2 => wipe σ2 vs = wipe σ vs ∧ tt σ2 H2 fun b H3 =>
      if b = true then te σ2 H3 fun y H4 => ∃ acc, H4 D = some (.lst acc) ∧ acc.length < sizeLine ∧ Pv (i + 1) (upd H4 D (.lst (acc ++ [y]))) else Pv (i + 1) H3) (hd : ∀ H, Pv xs.length H → Qd H) :
    ∃ W : Nat → Nat → Hp → Prop, (∃ m, W 0 m (upd H1 D (.lst []))) ∧ ∀ i m H, W i m H →
      (((IteB p K a).stop i H ∧ Qd H) ∨ ((IteB p K a).go i H ∧ ∃ Nx : Hp → Prop, (∀ H', Nx H' → ∃ m', m' < m ∧ W (i + 1) m' H') ∧ ∀ x H', (IteB p K a).yld i H x H' → g x (wipe σ vs) H' fun σ2 H2 => wipe σ2 vs = wipe σ vs ∧ tt σ2 H2 fun b H3 =>
        if b = true then te σ2 H3 fun y H4 => ∃ acc, H4 D = some (.lst acc) ∧ acc.length < sizeLine ∧ Nx (upd H4 D (.lst (acc ++ [y]))) else Nx H3)) := by
  refine ⟨fun i m H => m = xs.length - i ∧ i ≤ xs.length ∧ Pv i H, ⟨xs.length, by simp, Nat.zero_le _, h0⟩, ?_⟩
  rintro i m H ⟨rfl, hi, pv⟩
  have qx := hq i H pv
  by_cases hlt : i < xs.length
  · have hx : xs[i]? = some xs[i] := List.getElem?_eq_getElem hlt
    refine .inr ⟨⟨xs, xs[i], qx, hx⟩, Pv (i + 1), fun H' p' => ⟨xs.length - (i + 1), by omega, rfl, hlt, p'⟩, fun v H' y => ?_⟩
    obtain ⟨T, x', e1, n, e2, h1⟩ := y
    rw [e1, e2]
    exact hs i x' T H (h1 xs qx) pv n
  · have e : i = xs.length := by omega
    subst e
    exact .inl ⟨⟨xs, qx, rfl⟩, hd H pv⟩
end Vf

set_option maxRecDepth 100000
set_option maxHeartbeats 4000000
/-! enumerate over a text -/
namespace Vf
open PySem PySem.Spec PyProof.Rows L2
def IteS (x : Str) : It :=
  ⟨fun i H => i < x.cps.size, fun i H v H' => ∃ T c, v = .ref T ∧ H T = none ∧ H' = upd H T (.tup [.int (i : Nat), .str ⟨#[c]⟩]) ∧ x.cps[i]? = some c, fun i H => x.cps.size = i⟩
theorem strIter_at {h h' : Heap} {it : Addr} {ty : String} {x : Str} {t : Tok} {i : Nat} (st : h.IsStrIter it ty x t i) (k : ∀ o, h.get? it = some o → h'.get? it = some o) : h'.IsStrIter it ty x t i := by
  obtain ⟨o, ho, r⟩ := st
  exact ⟨o, k o ho, r⟩
theorem strIter_obj {h : Heap} {it : Addr} {ty : String} {x : Str} {t : Tok} {i : Nat} (st : h.IsStrIter it ty x t i) : ∃ o, h.get? it = some o ∧ ∀ v, o.data ≠ .cell v := by
  obtain ⟨o, e, c, d⟩ := st
  exact ⟨o, e, fun v z => by rw [d] at z; cases z⟩
theorem turn_enumS {P : Program} {w : World} {K : PySem.W.Frag} {elts : List Expr} {kk : Nat} {tpos : Pos} (x : Str) (t : Tok) (e it : Addr) :
    Turn P w K (.Tuple elts kk tpos) (IteS x) [e, it] e (fun i h => (∃ old, IsEnum h e it ((i : Nat) : Int) old) ∧ h.IsStrIter it (strIterType x) x t i ∧ e ≠ it) where
  mem := by simp
  obj := fun i h st b hb => by
    obtain ⟨⟨old, he⟩, h1, _⟩ := st
    have e' : b = e ∨ b = it := by simpa using hb
    rcases e' with z | z
    · rw [z]; exact ⟨_, he, fun v q => nomatch q⟩
    · rw [z]; exact strIter_obj h1
  keep := fun i h h' st k => let ⟨⟨old, he⟩, hi, hne⟩ := st; ⟨⟨old, k e (by simp) _ he⟩, strIter_at hi fun o q => k it (by simp) o q, hne⟩
  item := by
    intro X hP hw hK hc i pins s σ H E I hf st hg
    subst hP hw hK
    obtain ⟨⟨old, he⟩, hit, hne⟩ := st
    have hel : e < s.heap.objs.size := Heap.lt_size he
    have hil : it < s.heap.objs.size := by obtain ⟨_, q, _⟩ := strIter_obj hit; exact Heap.lt_size q
    have hh : X.A.in1.handled = none := I.ok.hd hc
    refine wpAny_pyNext_enum_itemD (Draws.text hh it x t) he hit hg hne (by simp [hne]) fun u' h' tk e1 ho hit' hT hsz hk => ?_
    obtain ⟨c, u, hcx, rfl⟩ := e1
    refine ⟨_, rfl, wpAny_letOwnedTupleGo_enum (s := { s with heap := h', toks := tk + 1 }) ho fun h'' he' sb => ?_⟩
    have hT2 : h''.get? s.heap.objs.size = some { cls := .type "tuple", data := .seq #[.int i tk, .str ⟨#[c]⟩ u] } := (sb.2 _ (Nat.ne_of_gt hel)).trans hT
    have new : ObjOk X.prog X.w (upd H s.heap.objs.size (.tup [.int (i : Nat), .str ⟨#[c]⟩])) h'' s.heap.objs.size (.tup [.int (i : Nat), .str ⟨#[c]⟩]) :=
      ⟨by show 2 ≤ sizeLine; decide, [.int i tk, .str ⟨#[c]⟩ u], .cons ⟨_, rfl⟩ (.cons ⟨_, rfl⟩ .nil), ⟨_, hT2, rfl, _, rfl⟩⟩
    have I1 : Inv X pins σ (upd H s.heap.objs.size (.tup [.int (i : Nat), .str ⟨#[c]⟩])) { s with heap := h'', toks := tk + 1 } :=
      I.turnedNew (ch := [e, it]) (fun b ob hb q => (sb.2 b (fun z => hb (by simp [z]))).trans (hk b ob (fun z => hb (by simp [z])) (fun z => hb (by simp [z])) q)) hf (Nat.le_refl _) new
    refine ⟨.ref s.heap.objs.size, _, I1, rfl, ⟨_, c, rfl, I.hok.fresh (Nat.le_refl _), rfl, hcx⟩, ⟨⟨.str ⟨#[c]⟩ u, ?_⟩, strIter_at hit' fun o q => (sb.2 it (Ne.symm hne)).trans q, hne⟩, fun b hb => ?_⟩
    · have e1 : ((i + 1 : Nat) : Int) = (i : Int) + 1 := by omega
      rw [e1]; exact he'
    · have hb' : b < s.heap.objs.size := by
        have e' : b = e ∨ b = it := by simpa using hb
        rcases e' with z | z
        · rw [z]; exact hel
        · rw [z]; exact hil
      rw [upd_ne (Nat.ne_of_lt hb')]
      exact (hf b hb).1
  done := by
    intro X hP hw hK hc i pins s σ H E I hf st hg
    subst hP hw hK
    obtain ⟨⟨old, he⟩, hit, hne⟩ := st
    obtain ⟨f0, f1, f2, f3, f4, f5⟩ := hf it (by simp)
    have hh : X.A.in1.handled = none := I.ok.hd hc
    refine wpAny_pyNext_enum_endD (Draws.text hh it x t) he (by rw [show x.cps.size = i from hg]; exact hit) fun h' eb => ⟨rfl, I.turned (t' := s.toks) (fun b o hb q => eb b o hb q) f0 f1 f3 f4 f5⟩
  self := fun A i s Q E st h => let ⟨⟨_, he⟩, _⟩ := st; wpAny_pyIter_enum he h
def iEnumS (ta : TA) : TI := fun σ H R => ta σ H fun vs H1 => ∃ x, vs = [.str x] ∧ R (IteS x) H1
theorem pi_enumS {X : Cx} {e : Expr} {ta : TA} {p pos tpos : Pos} {elts : List Expr} {kk : Nat} (hg : Gl X "enumerate") (hm : X.mg "enumerate" = none) (ha : PA X [e] ta) (hs : starEach [e] X.env = [(false, eval e X.env)] := by rfl) :
    PI X (.Tuple elts kk tpos) (.Call (.Name "enumerate" p) [e] [] pos) (iEnumS ta) := by
  refine ⟨fun pins s σ H R I h => ?_⟩
  refine Call_ (ld_blt I hg hm boot_enumerate (PyProof.Rows.callWith_type1 (thn (ha.run pos pins s σ H _ I h) fun us s1 ⟨vs, H1, I1, r1, q1⟩ => ?_) hs rfl))
  obtain ⟨x, ex, q⟩ := q1
  subst ex
  cases r1 with
  | cons r rr =>
    cases rr
    obtain ⟨t, rfl⟩ := r
    refine call_enumerate_str fun h' he hit hsz hk => wpAny_pyIter_enum he ?_
    have I2 : Inv X pins σ H1 { s1 with heap := h' } := I1.kept (t' := s1.toks) hk
    refine ⟨s1.heap.objs.size + 1, [s1.heap.objs.size + 1, s1.heap.objs.size], _, _, H1, rfl, I2, turn_enumS x t (s1.heap.objs.size + 1) s1.heap.objs.size, ⟨⟨.none, he⟩, hit, Nat.succ_ne_self _⟩, fun b hb => ?_, q⟩
    have e' : b = s1.heap.objs.size + 1 ∨ b = s1.heap.objs.size := by simpa using hb
    have hle : s1.heap.objs.size ≤ b := by
      rcases e' with z | z
      · rw [z]; exact Nat.le_add_right _ _
      · rw [z]; exact Nat.le_refl _
    exact I1.fpOk hle (I1.hok.fresh hle)
/-- a loop over enumerate of a text -/
theorem for_enumS {x : Str} {g : TG} {tb : TS} {D : Ends} {σ : L2.St} {H : Hp} (Pv : Nat → L2.St → Hp → Prop) (h0 : Pv 0 σ H)
    (hs : ∀ (i c : Nat) (T : Addr) (σ : L2.St) (H : Hp), x.cps[i]? = some c → Pv i σ H → H T = none → g (.ref T) σ (upd H T (.tup [.int (i : Nat), .str ⟨#[c]⟩])) fun σ2 H2 => tb { D with nx := Pv (i + 1), ct := Pv (i + 1), bk := D.nx } σ2 H2) (hd : ∀ σ H, Pv x.cps.size σ H → D.nx σ H) :
    ∃ W : Nat → Nat → L2.St → Hp → Prop, (∃ m, W 0 m σ H) ∧ ∀ i m σ H, W i m σ H →
      ((IteS x).stop i H ∧ D.nx σ H) ∨ ((IteS x).go i H ∧ ∃ N : L2.St → Hp → Prop, (∀ σ' H', N σ' H' → ∃ m', m' < m ∧ W (i + 1) m' σ' H') ∧ ∀ v H', (IteS x).yld i H v H' → g v σ H' fun σ2 H2 => tb { D with nx := N, ct := N, bk := D.nx } σ2 H2) := by
  refine ⟨fun i m σ H => m = x.cps.size - i ∧ i ≤ x.cps.size ∧ Pv i σ H, ⟨x.cps.size, rfl, Nat.zero_le _, h0⟩, ?_⟩
  rintro i m σ H ⟨rfl, hi, pv⟩
  by_cases hlt : i < x.cps.size
  · refine .inr ⟨hlt, Pv (i + 1), fun σ' H' p' => ⟨x.cps.size - (i + 1), by omega, rfl, hlt, p'⟩, fun v H' y => ?_⟩
    obtain ⟨T, c, rfl, hT, rfl, hc⟩ := y
    exact hs i c T σ H hc pv hT
  · have e : i = x.cps.size := by omega
    subst e
    exact .inl ⟨rfl, hd σ H pv⟩
end Vf

set_option maxRecDepth 100000
set_option maxHeartbeats 4000000
/-! slices of lists and tuples alike; zip of rows of any lengths, of three rows -/
namespace Vf
open PySem PySem.Spec PyProof.Rows L2
def rSlQ (K : PySem.W.Frag) : V → Option Int → Option Int → Hp → VK → Prop := fun x lo hi H Q => ∃ p a xs, x = .ref a ∧ SqB p K H a xs ∧ ∀ b H', Same H H' → SqB p K H' b (cutV xs lo hi) → Q (.ref b) H'
theorem same_new {H : Hp} {p : Addr} {o : HO} (n : H p = none) : Same H (upd H p o) := fun b u e => by rw [upd_ne (ne_of_none e n)]; exact e
theorem sl_seq {X : Cx} : SlR X (rSlQ X.K) := by
  intro pins s σ H x v vl vu lo hi sl Q I rx hs pl pu h
  obtain ⟨p, a, xs, rfl, hq, q⟩ := h
  cases p with
  | false =>
    refine sl_tupA pins s σ H _ v vl vu lo hi sl Q I rx hs pl pu ⟨a, xs, rfl, hq, fun hw => ?_, fun _ t nt => q t _ (same_new nt) (.inl (.inl upd_same))⟩
    refine q a H (Same.refl _) ?_
    have e : cutV xs lo hi = xs := by
      unfold cutV
      rw [hw.1, hw.2, Nat.sub_zero, List.drop_zero, List.take_length]
    rw [e]
    exact hq
  | true => exact sl_list pins s σ H _ v vl vu lo hi sl Q I rx hs pl pu ⟨a, xs, rfl, hq, fun t nt => q t _ (same_new nt) (.inl (.inl upd_same))⟩
/-- a comprehension over zip of two rows of any lengths -/
theorem lc_zipM {p q : Bool} {K : PySem.W.Frag} {a b : Addr} {xs ys : List V} {g : TG} {tt : TT} {te : TE} {vs : List Nat} {σ : L2.St} {H1 : Hp} {D : Addr} {Qd : Hp → Prop} (n : Nat) (hn : n = min xs.length ys.length) (Pv : Nat → Hp → Prop) (h0 : Pv 0 (upd H1 D (.lst [])))
    (hq : ∀ i H, Pv i H → SqB p K H a xs ∧ SqB q K H b ys)
    (hs : ∀ (i : Nat) (x y : V) (T : Addr) (H : Hp), i < n → xs[i]? = some x → ys[i]? = some y → Pv i H → H T = none → g (.ref T) (wipe σ vs) (upd H T (.tup [x, y])) fun σ2 H2 => wipe σ2 vs = wipe σ vs ∧ tt σ2 H2 fun b H3 =>
      if b = true then te σ2 H3 fun y H4 => ∃ acc, H4 D = some (.lst acc) ∧ acc.length < sizeLine ∧ Pv (i + 1) (upd H4 D (.lst (acc ++ [y]))) else Pv (i + 1) H3) (hd : ∀ H, Pv n H → Qd H) :
    ∃ W : Nat → Nat → Hp → Prop, (∃ m, W 0 m (upd H1 D (.lst []))) ∧ ∀ i m H, W i m H →
      (((ItzB p q K a b).stop i H ∧ Qd H) ∨ ((ItzB p q K a b).go i H ∧ ∃ Nx : Hp → Prop, (∀ H', Nx H' → ∃ m', m' < m ∧ W (i + 1) m' H') ∧ ∀ x H', (ItzB p q K a b).yld i H x H' → g x (wipe σ vs) H' fun σ2 H2 => wipe σ2 vs = wipe σ vs ∧ tt σ2 H2 fun b H3 =>
        if b = true then te σ2 H3 fun y H4 => ∃ acc, H4 D = some (.lst acc) ∧ acc.length < sizeLine ∧ Nx (upd H4 D (.lst (acc ++ [y]))) else Nx H3)) := by
  refine ⟨fun i m H => m = n - i ∧ i ≤ n ∧ Pv i H, ⟨n, by simp, Nat.zero_le _, h0⟩, ?_⟩
  rintro i m H ⟨rfl, hi, pv⟩
  obtain ⟨qx, qy⟩ := hq i H pv
  by_cases hlt : i < n
  · have h1 : i < xs.length := by omega
    have h2 : i < ys.length := by omega
    have hx : xs[i]? = some xs[i] := List.getElem?_eq_getElem h1
    have hy : ys[i]? = some ys[i] := List.getElem?_eq_getElem h2
    refine .inr ⟨⟨xs, ys, xs[i], ys[i], qx, qy, hx, hy⟩, Pv (i + 1), fun H' p' => ⟨n - (i + 1), by omega, rfl, hlt, p'⟩, fun v H' y => ?_⟩
    obtain ⟨T, x', y', e1, m, e2, h1, h2⟩ := y
    rw [e1, e2]
    exact hs i x' y' T H hlt (h1 xs qx) (h2 ys qy) pv m
  · have e : i = n := by omega
    subst e
    exact .inl ⟨⟨xs, ys, qx, qy, by omega, by omega, by omega⟩, hd H pv⟩
/-! ### three rows -/
def Itz3 (p q r : Bool) (K : PySem.W.Frag) (a b c : Addr) : It :=
  ⟨fun i H => ∃ (xs ys ws : List V) (x y w : V), SqB p K H a xs ∧ SqB q K H b ys ∧ SqB r K H c ws ∧ xs[i]? = some x ∧ ys[i]? = some y ∧ ws[i]? = some w,
    fun i H v H' => ∃ T x y w, v = .ref T ∧ H T = none ∧ H' = upd H T (.tup [x, y, w]) ∧ (∀ xs, SqB p K H a xs → xs[i]? = some x) ∧ (∀ ys, SqB q K H b ys → ys[i]? = some y) ∧ ∀ ws, SqB r K H c ws → ws[i]? = some w,
    fun i H => ∃ xs ys ws : List V, SqB p K H a xs ∧ SqB q K H b ys ∧ SqB r K H c ws ∧ i ≤ xs.length ∧ i ≤ ys.length ∧ i ≤ ws.length ∧ (xs.length = i ∨ ys.length = i ∨ ws.length = i)⟩
/-- the cells of a zip of three, the first one at n, over rows that stood before -/
theorem sep3 {n a b c : Addr} (ha : a < n) (hb : b < n) (hc : c < n) : ZipSep3 (n + 5) (n + 3) (n + 4) n (n + 1) (n + 2) [n, a] [n + 1, b] [n + 2, c] := by
  have up : ∀ {x : Addr} (k : Nat), x < n → n + k ≠ x := fun {x} k h => Nat.ne_of_gt (Nat.lt_of_lt_of_le h (Nat.le_add_right n k))
  have d : ∀ {i j : Nat}, i < j → n + i ≠ n + j := fun {i j} h => Nat.ne_of_lt (Nat.add_lt_add_left h n)
  have z : ∀ {j : Nat}, 0 < j → n + j ≠ n := fun {j} h => Nat.ne_of_gt (Nat.lt_add_of_pos_right h)
  have no : ∀ {x y w : Addr}, x ≠ y → x ≠ w → x ∉ [y, w] := fun {x y w} h1 h2 h => by
    rcases List.mem_cons.mp h with h | h
    · exact h1 h
    · exact h2 (List.mem_singleton.mp h)
  exact {
    TIz := d (by decide)
    TOz := d (by decide)
    TITO := d (by decide)
    TIi1 := z (by decide)
    mem1 := List.mem_cons_self ..
    zf1 := no (z (by decide)) (up 5 ha)
    Tf1 := no (z (by decide)) (up 4 ha)
    TIi2 := (d (by decide)).symm
    mem2 := List.mem_cons_self ..
    zf2 := no (d (by decide)).symm (up 5 hb)
    Tf2 := no (d (by decide)).symm (up 4 hb)
    TIi3 := (d (by decide)).symm
    mem3 := List.mem_cons_self ..
    zf3 := no (d (by decide)).symm (up 5 hc)
    Tf3 := no (d (by decide)).symm (up 4 hc)
    sep1_2 := no (z (by decide)).symm (Nat.ne_of_gt hb)
    sep1_3 := no (z (by decide)).symm (Nat.ne_of_gt hc)
    sep2_1 := no (z (by decide)) (up 1 ha)
    sep2_3 := no (d (by decide)) (up 1 hc)
    sep3_1 := no (z (by decide)) (up 2 ha)
    sep3_2 := no (d (by decide)).symm (up 2 hb) }
theorem turn_zip3 {P : Program} {w : World} {K : PySem.W.Frag} {elts : List Expr} {kk : Nat} {tpos : Pos} (p q r : Bool) {n a b c : Addr} (ha : a < n) (hb : b < n) (hc : c < n) :
    Turn P w K (.Tuple elts kk tpos) (Itz3 p q r K a b c) [n + 5, n + 3, n + 4, n, n + 1, n + 2] (n + 5) (fun i h => IsZip h (n + 5) (n + 3) (n + 4) .none ∧ IsTupOf3 h (n + 3) (.ref n) (.ref (n + 1)) (.ref (n + 2)) ∧ (∃ x y z, IsTupOf3 h (n + 4) x y z) ∧ ItB p h n a i ∧ ItB q h (n + 1) b i ∧ ItB r h (n + 2) c i) where
  mem := by simp
  obj := fun i h st d hd => by
    obtain ⟨hz, hTI, ⟨x, y, z, hTO⟩, h1, h2, h3⟩ := st
    have e' : d = n + 5 ∨ d = n + 3 ∨ d = n + 4 ∨ d = n ∨ d = n + 1 ∨ d = n + 2 := by simpa using hd
    rcases e' with q | q | q | q | q | q
    · rw [q]; exact ⟨_, hz, fun v q => nomatch q⟩
    · rw [q]; exact ⟨_, hTI, fun v q => nomatch q⟩
    · rw [q]; exact ⟨_, hTO, fun v q => nomatch q⟩
    · rw [q]; exact h1.obj
    · rw [q]; exact h2.obj
    · rw [q]; exact h3.obj
  keep := fun i h h' st k => by
    obtain ⟨hz, hTI, ⟨x, y, z, hTO⟩, h1, h2, h3⟩ := st
    exact ⟨k _ (by simp) _ hz, k _ (by simp) _ hTI, ⟨x, y, z, k _ (by simp) _ hTO⟩, h1.at fun o q => k _ (by simp) o q, h2.at fun o q => k _ (by simp) o q, h3.at fun o q => k _ (by simp) o q⟩
  item := by
    intro X hP hw hK hcm i pins s σ H E I hf st hg
    subst hP hw hK
    obtain ⟨hz, hTI, ⟨x0, y0, z0, hTO⟩, h1, h2, h3⟩ := st
    obtain ⟨xs, ys, ws, x, y, w', hqx, hqy, hqw, hx, hy, hw'⟩ := hg
    obtain ⟨its, rv, p1⟩ := seqB I hqx
    obtain ⟨its2, rv2, p2⟩ := seqB I hqy
    obtain ⟨its3, rv3, p3⟩ := seqB I hqw
    obtain ⟨u, hu, ru⟩ := rv.get hx
    obtain ⟨u2, hu2, ru2⟩ := rv2.get hy
    obtain ⟨u3, hu3, ru3⟩ := rv3.get hw'
    have hzl : n + 5 < s.heap.objs.size := Heap.lt_size hz
    have hh : X.A.in1.handled = none := I.ok.hd hcm
    have lt : ∀ {l : List Value} {v : Value}, l[i]? = some v → i < l.toArray.size := fun h => by
      have := (List.getElem?_eq_some_iff.mp h).1
      simpa using this
    have na : a ≠ n := Nat.ne_of_lt ha
    have nb : b ≠ n + 1 := Nat.ne_of_lt (Nat.lt_succ_of_lt hb)
    have nc : c ≠ n + 2 := Nat.ne_of_lt (Nat.lt_of_lt_of_le hc (Nat.le_add_right _ _))
    refine wpAny_pyNext_zipD3_item (sep3 ha hb hc) (drawsB p hh n a na its.toArray) (drawsB q hh (n + 1) b nb its2.toArray) (drawsB r hh (n + 2) c nc its3.toArray) hz hTI hTO ⟨h1, p1⟩ ⟨h2, p2⟩ ⟨h3, p3⟩ (lt hu) (lt hu2) (lt hu3) fun u' u2' u3' h' tk e1 e2 e3 z' TO' h1' h2' h3' hT hsz hk => ?_
    have eu : u' = u := by
      rw [List.getElem?_toArray, hu] at e1
      exact (Option.some.inj e1).symm
    have eu2 : u2' = u2 := by
      rw [List.getElem?_toArray, hu2] at e2
      exact (Option.some.inj e2).symm
    have eu3 : u3' = u3 := by
      rw [List.getElem?_toArray, hu3] at e3
      exact (Option.some.inj e3).symm
    subst eu eu2 eu3
    refine ⟨_, rfl, wpAny_letOwnedTupleGo_zip (s := { s with heap := h', toks := tk }) z' fun h'' z'' sb => ?_⟩
    have hT2 : h''.get? s.heap.objs.size = some { cls := .type "tuple", data := .seq #[u', u2', u3'] } := (sb.2 _ (Nat.ne_of_gt hzl)).trans hT
    have new : ObjOk X.prog X.w (upd H s.heap.objs.size (.tup [x, y, w'])) h'' s.heap.objs.size (.tup [x, y, w']) :=
      ⟨by show 3 ≤ sizeLine; decide, [u', u2', u3'], .cons ru (.cons ru2 (.cons ru3 .nil)), ⟨_, hT2, rfl, _, rfl⟩⟩
    have I1 : Inv X pins σ (upd H s.heap.objs.size (.tup [x, y, w'])) { s with heap := h'', toks := tk } :=
      I.turnedNew (t' := tk) (ch := [n + 5, n + 3, n + 4, n, n + 1, n + 2]) (fun c o hb q => (sb.2 c (fun q' => hb (by simp [q']))).trans (hk c o (fun q' => hb (by simp [q'])) (fun q' => hb (by simp [q'])) (fun q' => hb (by simp [q'])) (fun q' => hb (by simp [q'])) (fun q' => hb (by simp [q'])) q)) hf (Nat.le_refl _) new
    have S := sep3 ha hb hc
    refine ⟨.ref s.heap.objs.size, _, I1, rfl, ⟨_, x, y, w', rfl, I.hok.fresh (Nat.le_refl _), rfl, fun l hl => by rw [seqB_inj I hl hqx]; exact hx, fun l hl => by rw [seqB_inj I hl hqy]; exact hy, fun l hl => by rw [seqB_inj I hl hqw]; exact hw'⟩, ⟨z'', ?_, ⟨u', u2', u3', ?_⟩, ?_, ?_, ?_⟩, fun d hcm => ?_⟩
    · exact (sb.2 _ S.TIz).trans (hk _ _ S.TIz S.TITO S.TIi1 S.TIi2 S.TIi3 hTI)
    · exact (sb.2 _ S.TOz).trans TO'
    · exact h1'.1.at fun o q => (sb.2 _ S.zi1.symm).trans q
    · exact h2'.1.at fun o q => (sb.2 _ S.zi2.symm).trans q
    · exact h3'.1.at fun o q => (sb.2 _ S.zi3.symm).trans q
    · have hlt : d < s.heap.objs.size := by
        have e' : d = n + 5 ∨ d = n + 3 ∨ d = n + 4 ∨ d = n ∨ d = n + 1 ∨ d = n + 2 := by simpa using hcm
        have lo : ∀ {k : Nat}, k ≤ 5 → n + k < s.heap.objs.size := fun {k} h => Nat.lt_of_le_of_lt (Nat.add_le_add_left h n) hzl
        rcases e' with q | q | q | q | q | q
        · rw [q]; exact hzl
        · rw [q]; exact lo (by decide)
        · rw [q]; exact lo (by decide)
        · rw [q]; exact Nat.lt_of_le_of_lt (Nat.le_add_right n 5) hzl
        · rw [q]; exact lo (by decide)
        · rw [q]; exact lo (by decide)
      rw [upd_ne (Nat.ne_of_lt hlt)]
      exact (hf d hcm).1
  done := by
    intro X hP hw hK hcm i pins s σ H E I hf st hg
    subst hP hw hK
    obtain ⟨hz, hTI, ⟨x0, y0, z0, hTO⟩, h1, h2, h3⟩ := st
    obtain ⟨xs, ys, ws, hqx, hqy, hqw, le1, le2, le3, hend⟩ := hg
    obtain ⟨its, rv, p1⟩ := seqB I hqx
    obtain ⟨its2, rv2, p2⟩ := seqB I hqy
    obtain ⟨its3, rv3, p3⟩ := seqB I hqw
    have l1 := rv.length
    have l2 := rv2.length
    have l3 := rv3.length
    have hh : X.A.in1.handled = none := I.ok.hd hcm
    have s1 : its.toArray.size = its.length := by simp
    have s2 : its2.toArray.size = its2.length := by simp
    have s3 : its3.toArray.size = its3.length := by simp
    have na : a ≠ n := Nat.ne_of_lt ha
    have nb : b ≠ n + 1 := Nat.ne_of_lt (Nat.lt_succ_of_lt hb)
    have nc : c ≠ n + 2 := Nat.ne_of_lt (Nat.lt_of_lt_of_le hc (Nat.le_add_right _ _))
    refine wpAny_pyNext_zipD3_end (sep3 ha hb hc) (drawsB p hh n a na its.toArray) (drawsB q hh (n + 1) b nb its2.toArray) (drawsB r hh (n + 2) c nc its3.toArray) hz hTI hTO ⟨h1, p1⟩ ⟨h2, p2⟩ ⟨h3, p3⟩ (by rw [s1]; omega) (by rw [s2]; omega) (by rw [s3]; omega) (by rw [s1, s2, s3]; omega) fun h' tk hk => ⟨rfl, I.turnedL (t' := tk) (ch := [n + 5, n + 3, n + 4, n, n + 1, n + 2]) (fun c o hb q =>
      hk c o (fun q' => hb (by simp [q'])) (fun q' => hb (by simp [q'])) (fun q' => hb (by simp [q'])) (fun q' => hb (by simp [q'])) (fun q' => hb (by simp [q'])) q) hf⟩
  self := fun A i s Q E st h => wpAny_pyIter_zip st.1 h
def iZip3 (K : PySem.W.Frag) (ta : TA) : TI := fun σ H R => ta σ H fun vs H1 => ∃ p q r a b c xs ys ws, vs = [.ref a, .ref b, .ref c] ∧ SqB p K H1 a xs ∧ SqB q K H1 b ys ∧ SqB r K H1 c ws ∧ R (Itz3 p q r K a b c) H1
theorem pi_zip3 {X : Cx} {e e2 e3 : Expr} {ta : TA} {p pos tpos : Pos} {elts : List Expr} {kk : Nat} (hg : Gl X "zip") (hm : X.mg "zip" = none) (ha : PA X [e, e2, e3] ta)
    (hs : starEach [e, e2, e3] X.env = (false, eval e X.env) :: starEach [e2, e3] X.env := by rfl) (hpl : (backTo pos (starEach [e2, e3] X.env)).any (·.1) = false := by rfl) :
    PI X (.Tuple elts kk tpos) (.Call (.Name "zip" p) [e, e2, e3] [] pos) (iZip3 X.K ta) := by
  refine ⟨fun pins s σ H R I h => ?_⟩
  refine Call_ (ld_blt I hg hm PyProof.Rows.boot_zip (PyProof.Rows.callWith_type1 (thn (ha.run pos pins s σ H _ I h) fun us s1 ⟨vs, H1, I1, r1, q1⟩ => ?_) hs hpl))
  obtain ⟨p, q, r, a, b, c, xs, ys, ws, ex, hqx, hqy, hqw, g⟩ := q1
  subst ex
  cases r1 with
  | cons r1 rr =>
    cases rr with
    | cons r2 rr =>
      cases rr with
      | cons r3 rr =>
        cases rr
        cases r1
        cases r2
        cases r3
        have fresh : ∀ d, d ∈ [s1.heap.objs.size + 5, s1.heap.objs.size + 3, s1.heap.objs.size + 4, s1.heap.objs.size, s1.heap.objs.size + 1, s1.heap.objs.size + 2] → FpOk X pins H1 d := fun d hcm => by
          have e' : d = s1.heap.objs.size + 5 ∨ d = s1.heap.objs.size + 3 ∨ d = s1.heap.objs.size + 4 ∨ d = s1.heap.objs.size ∨ d = s1.heap.objs.size + 1 ∨ d = s1.heap.objs.size + 2 := by simpa using hcm
          have hle : s1.heap.objs.size ≤ d := by
            rcases e' with z | z | z | z | z | z
            · rw [z]; exact Nat.le_add_right _ _
            · rw [z]; exact Nat.le_add_right _ _
            · rw [z]; exact Nat.le_add_right _ _
            · rw [z]; exact Nat.le_refl _
            · rw [z]; exact Nat.le_add_right _ _
            · rw [z]; exact Nat.le_add_right _ _
          exact I1.fpOk hle (I1.hok.fresh hle)
        obtain ⟨its, rv, p1⟩ := seqB I1 hqx
        obtain ⟨its2, rv2, p2⟩ := seqB I1 hqy
        obtain ⟨its3, rv3, p3⟩ := seqB I1 hqw
        refine zip_begins3 (beginsB p a its.toArray) (beginsB q b its2.toArray) (beginsB r c its3.toArray) p1 p2 p3 fun h' hz hTI hTO h1 h2 h3 hsz hk => wpAny_pyIter_zip hz ?_
        have I2 : Inv X pins σ H1 { s1 with heap := h' } := I1.kept (t' := s1.toks) hk
        exact ⟨s1.heap.objs.size + 5, [s1.heap.objs.size + 5, s1.heap.objs.size + 3, s1.heap.objs.size + 4, s1.heap.objs.size, s1.heap.objs.size + 1, s1.heap.objs.size + 2], _, _, H1, rfl, I2, turn_zip3 p q r p1.lt p2.lt p3.lt, ⟨hz, hTI, ⟨_, _, _, hTO⟩, itB_of h1, itB_of h2, itB_of h3⟩, fresh, g⟩
/-- a loop over zip of three rows alike in length -/
theorem for_zip3 {p q r : Bool} {K : PySem.W.Frag} {a b c : Addr} {xs ys ws : List V} {g : TG} {tb : TS} {D : Ends} {σ : L2.St} {H : Hp} (hl : xs.length = ys.length) (hl2 : xs.length = ws.length) (Pv : Nat → L2.St → Hp → Prop) (h0 : Pv 0 σ H) (hq : ∀ i σ H, Pv i σ H → SqB p K H a xs ∧ SqB q K H b ys ∧ SqB r K H c ws)
    (hs : ∀ (i : Nat) (x y w : V) (T : Addr) (σ : L2.St) (H : Hp), xs[i]? = some x → ys[i]? = some y → ws[i]? = some w → Pv i σ H → H T = none → g (.ref T) σ (upd H T (.tup [x, y, w])) fun σ2 H2 => tb { D with nx := Pv (i + 1), ct := Pv (i + 1), bk := D.nx } σ2 H2) (hd : ∀ σ H, Pv xs.length σ H → D.nx σ H) :
    ∃ W : Nat → Nat → L2.St → Hp → Prop, (∃ m, W 0 m σ H) ∧ ∀ i m σ H, W i m σ H →
      ((Itz3 p q r K a b c).stop i H ∧ D.nx σ H) ∨ ((Itz3 p q r K a b c).go i H ∧ ∃ N : L2.St → Hp → Prop, (∀ σ' H', N σ' H' → ∃ m', m' < m ∧ W (i + 1) m' σ' H') ∧ ∀ v H', (Itz3 p q r K a b c).yld i H v H' → g v σ H' fun σ2 H2 => tb { D with nx := N, ct := N, bk := D.nx } σ2 H2) := by
  refine ⟨fun i m σ H => m = xs.length - i ∧ i ≤ xs.length ∧ Pv i σ H, ⟨xs.length, rfl, Nat.zero_le _, h0⟩, ?_⟩
  rintro i m σ H ⟨rfl, hi, pv⟩
  obtain ⟨qx, qy, qw⟩ := hq i σ H pv
  by_cases hlt : i < xs.length
  · have hx : xs[i]? = some xs[i] := List.getElem?_eq_getElem hlt
    have hy : ys[i]? = some (ys[i]'(by omega)) := List.getElem?_eq_getElem (by omega)
    have hw : ws[i]? = some (ws[i]'(by omega)) := List.getElem?_eq_getElem (by omega)
    refine .inr ⟨⟨xs, ys, ws, _, _, _, qx, qy, qw, hx, hy, hw⟩, Pv (i + 1), fun σ' H' p' => ⟨xs.length - (i + 1), by omega, rfl, hlt, p'⟩, fun v H' y => ?_⟩
    obtain ⟨T, x', y', w', rfl, hT, rfl, f1, f2, f3⟩ := y
    exact hs i x' y' w' T σ H (f1 xs qx) (f2 ys qy) (f3 ws qw) pv hT
  · have e : i = xs.length := by omega
    subst e
    exact .inl ⟨⟨xs, ys, ws, qx, qy, qw, Nat.le_refl _, by omega, by omega, .inl rfl⟩, hd σ H pv⟩
end Vf

set_option maxRecDepth 100000
set_option maxHeartbeats 4000000
/-! a text of one sign, some times -/
namespace Vf
open PySem PySem.Spec PyProof.Rows L2
def rRepS : R2 := fun x y H Q => ∃ s n, x = .str s ∧ y = .int n ∧ s.length = 1 ∧ 1 ≤ n ∧ n ≤ 1000 ∧ ∀ z, Q (.str z) H
theorem foldl_size {α : Type} (c : Array α) : ∀ (m : Nat) (acc : Array α), (List.foldl (fun x1 x2 => x1 ++ x2) acc (List.replicate m c)).size = acc.size + m * c.size
  | 0, acc => by simp
  | m + 1, acc => by
    rw [List.replicate_succ, List.foldl_cons, foldl_size c m, Array.size_append, Nat.succ_mul]
    omega
theorem op_repS {X : Cx} : OpR X (binaryOp .Mult) rRepS := by
  intro pins s σ H x y v u Q I rx ry h
  obtain ⟨z, n, rfl, rfl, hl, n1, n2, q⟩ := h
  obtain ⟨t, rfl⟩ := rx
  obtain ⟨t2, rfl⟩ := ry
  refine PySem.P.mul_str ?_ (fun _ _ => ?_) (fun _ _ => ?_) ?_
  · rw [decide_eq_false (by omega), decide_eq_false (by omega)]
    rfl
  · rw [hl]
    have : 1 ≤ (2 ^ 63 - 1) / n := Int.le_ediv_of_mul_le (by omega) (by omega)
    omega
  · rw [hl]
    show decide (1 * n.toNat > sizeLine) = false
    rw [sizeLine_eq]
    exact decide_eq_false (by omega)
  · rw [if_neg (by omega)]
    by_cases h1 : (n == 1 || z.length == 0) = true
    · rw [if_pos h1]
      exact ⟨.str z, H, I, ⟨_, rfl⟩, q z⟩
    · rw [if_neg h1]
      refine ⟨?_, .str _, H, I.tok _, ⟨_, rfl⟩, q _⟩
      show (List.foldl (fun x1 x2 => x1 ++ x2) #[] (List.replicate n.toNat z.cps)).size ≤ sizeLine
      rw [foldl_size]
      have hl : z.cps.size = 1 := hl
      rw [hl, sizeLine_eq, Array.size_empty]
      omega
end Vf

set_option maxRecDepth 100000
set_option maxHeartbeats 4000000
/-! texts as rows of code points -/
namespace Vf
open PySem PySem.Spec PyProof.Rows L2
/-- the text of these code points -/
def Tx (l : List Nat) : Str := ⟨l.toArray⟩
theorem tx_cps (l : List Nat) : (Tx l).cps.toList = l := rfl
theorem tx_len (l : List Nat) : (Tx l).length = l.length := by
  show l.toArray.size = l.length
  simp
theorem tx_of (z : Str) : ∃ l, z = Tx l := ⟨z.cps.toList, by cases z; rfl⟩
theorem tx_inj {a b : List Nat} (h : Tx a = Tx b) : a = b := by
  have := congrArg (fun z : Str => z.cps.toList) h
  simpa [tx_cps] using this
theorem tx_at (l : List Nat) (i : Nat) : (Tx l).cps[i]? = l[i]? := by
  show l.toArray[i]? = l[i]?
  simp
theorem sIx_nat (n d a : Nat) : HT.sIx n d (some (a : Int)) = min a n := by
  show (if (a : Int) < 0 then ((a : Int) + (n : Int)).toNat else min (a : Int).toNat n) = _
  rw [if_neg (by omega)]
  rfl
theorem tx_cut (l : List Nat) {a b : Int} {m n : Nat} (ha : a = (m : Int)) (hb : b = (n : Int)) : cutS (Tx l) (some a) (some b) = Tx ((l.drop m).take (n - m)) := by
  subst ha hb
  show Str.mk ((((Tx l).cps.toList.drop (HT.sIx (Tx l).length 0 (some (m : Int)))).take (HT.sIx (Tx l).length (Tx l).length (some (n : Int)) - HT.sIx (Tx l).length 0 (some (m : Int)))).toArray) = Str.mk _
  rw [sIx_nat, sIx_nat, tx_cps, tx_len]
  congr 2
  by_cases hm : m ≤ l.length
  · rw [Nat.min_eq_left hm]
    by_cases hn : n ≤ l.length
    · rw [Nat.min_eq_left hn]
    · rw [Nat.min_eq_right (by omega), List.take_of_length_le (by rw [List.length_drop]; omega), List.take_of_length_le (by rw [List.length_drop]; omega)]
  · rw [Nat.min_eq_right (by omega : l.length ≤ m), List.drop_eq_nil_of_le (Nat.le_refl _), List.drop_eq_nil_of_le (by omega)]
    simp
theorem take_one (l : List Nat) : l.take 1 = l[0]?.toList := by cases l <;> rfl
theorem tx_sign (l : List Nat) {a b : Int} {m : Nat} (ha : a = (m : Int)) (hb : b = a + 1) : cutS (Tx l) (some a) (some b) = Tx (l[m]?.toList) := by
  rw [tx_cut l (n := m + 1) ha (by omega), show m + 1 - m = 1 by omega, take_one, List.getElem?_drop]
  rfl
/-- one sign compared with a written one -/
theorem sign_eq (o : Option Nat) (c : Nat) : decide (V.str (Tx o.toList) = V.str (Tx [c])) = decide (o = some c) := by
  cases o with
  | none =>
    rw [decide_eq_false (fun z => by have := tx_inj (V.str.inj z); cases this), decide_eq_false (fun z => nomatch z)]
  | some d =>
    by_cases h : d = c
    · subst h
      simp
    · rw [decide_eq_false (fun z => h (by have := tx_inj (V.str.inj z); simpa using this)), decide_eq_false (fun z => h (Option.some.inj z))]
theorem tx_eq (a b : List Nat) : decide (V.str (Tx a) = V.str (Tx b)) = decide (a = b) := by
  by_cases h : a = b
  · subst h; simp
  · rw [decide_eq_false (fun z => h (tx_inj (V.str.inj z))), decide_eq_false h]
def isD (c : Nat) : Bool := decide (48 ≤ c ∧ c ≤ 57)
theorem in_digits (c : Nat) : decide (c ∈ [48, 49, 50, 51, 52, 53, 54, 55, 56, 57]) = isD c := by
  unfold isD
  refine decide_eq_decide.mpr ?_
  simp only [List.mem_cons, List.not_mem_nil, or_false]
  omega
theorem lit_digits : ("0123456789" : Str) = Tx [48, 49, 50, 51, 52, 53, 54, 55, 56, 57] := by decide +kernel
theorem lit_sp : (" " : Str) = Tx [32] := by decide +kernel
theorem lit_x : ("x" : Str) = Tx [120] := by decide +kernel
theorem lit_hat : ("^" : Str) = Tx [94] := by decide +kernel
theorem lit_star : ("*" : Str) = Tx [42] := by decide +kernel
theorem lit_slash : ("/" : Str) = Tx [47] := by decide +kernel
theorem lit_plus : ("+" : Str) = Tx [43] := by decide +kernel
theorem lit_minus : ("-" : Str) = Tx [45] := by decide +kernel
theorem lit_zero : ("0" : Str) = Tx [48] := by decide +kernel
theorem lit_one : ("1" : Str) = Tx [49] := by decide +kernel
theorem lit_10 : ("10" : Str) = Tx [49, 48] := by decide +kernel
theorem lit_11 : ("11" : Str) = Tx [49, 49] := by decide +kernel
theorem lit_12 : ("12" : Str) = Tx [49, 50] := by decide +kernel
theorem lit_empty : ("" : Str) = Tx [] := by decide +kernel
/-- the worth of figures -/
theorem int_tx {l : List Nat} (h : ∀ c ∈ l, isD c = true) (h1 : l ≠ []) (h2 : l.length ≤ 640) : PySem.intText? (Tx l) = some ((PySem.NumText.digitsVal l : Nat) : Int) :=
  PySem.intText_digits (x := Tx l) (fun c hc => of_decide_eq_true (h c hc)) h1 (by rw [tx_len]; omega)
theorem dv_go : ∀ (l : List Nat) (a : Nat), (∀ c ∈ l, isD c = true) → l.foldl (fun acc c => acc * 10 + (c - 48)) a < (a + 1) * 10 ^ l.length
  | [], a, _ => by simp
  | c :: l, a, h => by
    have hc : 48 ≤ c ∧ c ≤ 57 := of_decide_eq_true (h c (List.mem_cons_self ..))
    have := dv_go l (a * 10 + (c - 48)) (fun d hd => h d (List.mem_cons_of_mem _ hd))
    rw [List.foldl_cons, List.length_cons, Nat.pow_succ]
    refine Nat.lt_of_lt_of_le this ?_
    rw [Nat.mul_comm (10 ^ l.length) 10, ← Nat.mul_assoc]
    exact Nat.mul_le_mul_right _ (by omega)
theorem dv_lt {l : List Nat} (h : ∀ c ∈ l, isD c = true) : PySem.NumText.digitsVal l < 10 ^ l.length := by
  have := dv_go l 0 h
  simpa [PySem.NumText.digitsVal] using this
theorem dv_ge : ∀ (l : List Nat) (a : Nat), a ≤ l.foldl (fun acc c => acc * 10 + (c - 48)) a
  | [], a => Nat.le_refl _
  | c :: l, a => by
    rw [List.foldl_cons]
    exact Nat.le_trans (by omega) (dv_ge l _)
/-- figures behind one that is not 0 are not 0 -/
theorem dv_pos {c : Nat} {l : List Nat} (h : isD c = true) (h0 : c ≠ 48) : 0 < PySem.NumText.digitsVal (c :: l) := by
  have hc : 48 ≤ c ∧ c ≤ 57 := of_decide_eq_true h
  unfold PySem.NumText.digitsVal
  rw [List.foldl_cons]
  exact Nat.lt_of_lt_of_le (by omega) (dv_ge l _)
end Vf

set_option maxRecDepth 100000
set_option maxHeartbeats 4000000
/-! a text of one sign some times, with its length; texts cut at one end; joined texts -/
namespace Vf
open PySem PySem.Spec PyProof.Rows L2
def rRepN : R2 := fun x y H Q => ∃ s n, x = .str s ∧ y = .int n ∧ s.length = 1 ∧ 1 ≤ n ∧ n ≤ 1000 ∧ ∀ z : Str, z.length = n.toNat → Q (.str z) H
theorem op_repN {X : Cx} : OpR X (binaryOp .Mult) rRepN := by
  intro pins s σ H x y v u Q I rx ry h
  obtain ⟨z, n, rfl, rfl, hl, n1, n2, q⟩ := h
  obtain ⟨t, rfl⟩ := rx
  obtain ⟨t2, rfl⟩ := ry
  refine PySem.P.mul_str ?_ (fun _ _ => ?_) (fun _ _ => ?_) ?_
  · rw [decide_eq_false (by omega), decide_eq_false (by omega)]
    rfl
  · rw [hl]
    have : 1 ≤ (2 ^ 63 - 1) / n := Int.le_ediv_of_mul_le (by omega) (by omega)
    omega
  · rw [hl]
    show decide (1 * n.toNat > sizeLine) = false
    rw [sizeLine_eq]
    exact decide_eq_false (by omega)
  · rw [if_neg (by omega)]
    by_cases h1 : (n == 1 || z.length == 0) = true
    · rw [if_pos h1]
      refine ⟨.str z, H, I, ⟨_, rfl⟩, q z ?_⟩
      rw [Bool.or_eq_true, beq_iff_eq, beq_iff_eq] at h1
      omega
    · rw [if_neg h1]
      have hz : (List.foldl (fun x1 x2 => x1 ++ x2) #[] (List.replicate n.toNat z.cps)).size = n.toNat := by
        rw [foldl_size]
        have hl : z.cps.size = 1 := hl
        rw [hl, Array.size_empty]
        omega
      refine ⟨?_, .str _, H, I.tok _, ⟨_, rfl⟩, q _ hz⟩
      show (List.foldl (fun x1 x2 => x1 ++ x2) #[] (List.replicate n.toNat z.cps)).size ≤ sizeLine
      rw [hz, sizeLine_eq]
      omega
theorem tx_upto (l : List Nat) {a : Int} {m : Nat} (ha : a = (m : Int)) : cutS (Tx l) none (some a) = Tx (l.take m) := by
  subst ha
  show Str.mk ((((Tx l).cps.toList.drop (HT.sIx (Tx l).length 0 none)).take (HT.sIx (Tx l).length (Tx l).length (some (m : Int)) - HT.sIx (Tx l).length 0 none)).toArray) = Str.mk _
  rw [sIx_nat, tx_cps, tx_len]
  show Str.mk (((l.drop 0).take (min m l.length - 0)).toArray) = Str.mk _
  congr 2
  rw [List.drop_zero, Nat.sub_zero]
  by_cases h : m ≤ l.length
  · rw [Nat.min_eq_left h]
  · rw [Nat.min_eq_right (by omega), List.take_of_length_le (Nat.le_refl _), List.take_of_length_le (by omega)]
theorem tx_from (l : List Nat) {a : Int} {m : Nat} (ha : a = (m : Int)) : cutS (Tx l) (some a) none = Tx (l.drop m) := by
  subst ha
  show Str.mk ((((Tx l).cps.toList.drop (HT.sIx (Tx l).length 0 (some (m : Int)))).take (HT.sIx (Tx l).length (Tx l).length none - HT.sIx (Tx l).length 0 (some (m : Int)))).toArray) = Str.mk _
  rw [sIx_nat, tx_cps, tx_len]
  show Str.mk (((l.drop (min m l.length)).take (l.length - min m l.length)).toArray) = Str.mk _
  congr 2
  rw [List.take_of_length_le (by rw [List.length_drop]; omega)]
  by_cases h : m ≤ l.length
  · rw [Nat.min_eq_left h]
  · rw [Nat.min_eq_right (by omega), List.drop_eq_nil_of_le (Nat.le_refl _), List.drop_eq_nil_of_le (by omega)]
theorem join_len (a : Str) (ys : List Str) (h : a.length = 0) : (Txt.join a ys).length ≤ (ys.map (·.length)).sum := by
  unfold Txt.join
  rw [StrLaws.glued_eq_join]
  have := StrLaws.join_length_le a ys
  rw [h] at this
  omega
/-- an item of a text within its length -/
theorem at_txt (z : Str) {i : Int} (h0 : 0 ≤ i) (h1 : i < (z.length : Int)) : ∃ c, atI z.cps.toList i = some c := by
  have hl : z.cps.toList.length = z.length := Array.length_toList
  have hn : i.toNat < z.cps.toList.length := by omega
  refine ⟨z.cps.toList[i.toNat], ?_⟩
  unfold atI ixN
  rw [if_pos h0, if_pos (by omega)]
  exact List.getElem?_eq_getElem hn
end Vf

set_option maxRecDepth 100000
set_option maxHeartbeats 4000000
/-! a reader of polynomials, sign by sign -/
namespace Vf
inductive Md where
  | bg | mi | st | gp | en | sl | xx | ht
  | tp (s : List Nat) | un (s : List Nat) | pw (s : List Nat)
  deriving DecidableEq
def isPm (c : Nat) : Bool := decide (c = 43 ∨ c = 45)
def nxN (f : List Nat → Md) (s : List Nat) (c : Nat) : Option Md := if s ≠ [48] ∧ s.length < 40 then some (f (s ++ [c])) else none
def nx (m : Md) (c : Nat) : Option Md :=
  if c = 32 then
    match m with
    | .bg => some .bg | .mi => some .mi | .st => some .st | .gp => some .gp | .en => some .en
    | .tp _ => some .gp | .un _ => some .gp
    | .xx => some .en | .pw _ => some .en
    | .sl => none | .ht => none
  else match m with
    | .bg => if c = 45 then some .mi else if c = 120 then some .xx else if isD c then some (.tp [c]) else none
    | .mi => if c = 120 then some .xx else if isD c then some (.tp [c]) else none
    | .st => if c = 120 then some .xx else none
    | .tp s => if isD c then nxN .tp s c else if c = 47 then some .sl else if c = 42 then some .st else if isPm c then some .mi else none
    | .un s => if isD c then nxN .un s c else if c = 42 then some .st else if isPm c then some .mi else none
    | .sl => if isD c = true ∧ c ≠ 48 then some (.un [c]) else none
    | .xx => if c = 94 then some .ht else if isPm c then some .mi else none
    | .ht => if isD c then some (.pw [c]) else none
    | .pw s => if s = [49] ∧ 48 ≤ c ∧ c ≤ 50 then some (.pw (s ++ [c])) else if isPm c then some .mi else none
    | .gp => if c = 42 then some .st else if isPm c then some .mi else none
    | .en => if isPm c then some .mi else none
def acc : Md → Bool
  | .tp _ | .un _ | .gp | .xx | .pw _ | .en => true
  | _ => false
def col (m : Md) : List Nat → Nat → Nat
  | [], at_ => if acc m then 0 else at_ + 1
  | c :: cs, at_ => match nx m c with
    | none => at_ + 1
    | some m' => col m' cs (at_ + 1)
def Cl (t : List Nat) (m : Md) (at_ : Nat) : Nat := col m (t.drop at_) at_
section
variable {t : List Nat} {m m' : Md} {e c : Nat}
theorem drop_some (h : t[e]? = some c) : t.drop e = c :: t.drop (e + 1) := by
  obtain ⟨h1, rfl⟩ := List.getElem?_eq_some_iff.mp h
  exact List.drop_eq_getElem_cons h1
theorem drop_none (h : t[e]? = none) : t.drop e = [] := List.drop_eq_nil_of_le (List.getElem?_eq_none_iff.mp h)
theorem cl_step (h : t[e]? = some c) (n : nx m c = some m') : Cl t m e = Cl t m' (e + 1) := by
  unfold Cl
  rw [drop_some h]
  show (match nx m c with | none => e + 1 | some m' => col m' (t.drop (e + 1)) (e + 1)) = _
  rw [n]
theorem cl_fail (h : t[e]? = some c) (n : nx m c = none) : Cl t m e = e + 1 := by
  unfold Cl
  rw [drop_some h]
  show (match nx m c with | none => e + 1 | some m' => col m' (t.drop (e + 1)) (e + 1)) = _
  rw [n]
theorem cl_end (h : t[e]? = none) : Cl t m e = if acc m then 0 else e + 1 := by
  unfold Cl
  rw [drop_none h]
  rfl
def spc : List Nat → Nat
  | [] => 0
  | c :: cs => if c = 32 then spc cs + 1 else 0
/-- behind the spaces -/
def beh (t : List Nat) (e : Nat) : Nat := e + spc (t.drop e)
theorem beh_sp (h : t[e]? = some 32) : beh t e = beh t (e + 1) := by
  unfold beh
  rw [drop_some h]
  show e + (if (32 : Nat) = 32 then spc (t.drop (e + 1)) + 1 else 0) = _
  rw [if_pos rfl]
  omega
theorem beh_no (h : t[e]? ≠ some 32) : beh t e = e := by
  unfold beh
  cases h2 : t[e]? with
  | none => rw [drop_none h2]; rfl
  | some c =>
    rw [drop_some h2]
    show e + (if c = 32 then _ else 0) = _
    rw [if_neg (fun z => h (by rw [h2, z]))]
    rfl
theorem beh_ne (t : List Nat) (e : Nat) : t[beh t e]? ≠ some 32 := by
  have go : ∀ (n e : Nat), t.length - e ≤ n → t[beh t e]? ≠ some 32 := by
    intro n
    induction n with
    | zero =>
      intro e he z
      have h : t[e]? = none := List.getElem?_eq_none (by omega)
      rw [beh_no (by rw [h]; intro z; cases z), h] at z
      cases z
    | succ n ih =>
      intro e he
      by_cases h : t[e]? = some 32
      · rw [beh_sp h]
        have := (List.getElem?_eq_some_iff.mp h).1
        exact ih (e + 1) (by omega)
      · rw [beh_no h]
        exact h
  exact go _ e (Nat.le_refl _)
theorem beh_le (t : List Nat) (e : Nat) : e ≤ beh t e := Nat.le_add_right _ _
theorem beh_len (h : e ≤ t.length) : beh t e ≤ t.length := by
  have go : ∀ l : List Nat, spc l ≤ l.length := by
    intro l
    induction l with
    | nil => exact Nat.le_refl _
    | cons c cs ih =>
      show (if c = 32 then spc cs + 1 else 0) ≤ cs.length + 1
      split <;> omega
  unfold beh
  have := go (t.drop e)
  rw [List.length_drop] at this
  omega
/-- spaces leave a mode as it is -/
theorem cl_beh (hm : nx m 32 = some m) (e : Nat) : Cl t m e = Cl t m (beh t e) := by
  have go : ∀ (n e : Nat), t.length - e ≤ n → Cl t m e = Cl t m (beh t e) := by
    intro n
    induction n with
    | zero =>
      intro e he
      have h : t[e]? = none := List.getElem?_eq_none (by omega)
      rw [beh_no (by rw [h]; intro z; cases z)]
    | succ n ih =>
      intro e he
      by_cases h : t[e]? = some 32
      · rw [beh_sp h, cl_step h hm]
        have := (List.getElem?_eq_some_iff.mp h).1
        exact ih (e + 1) (by omega)
      · rw [beh_no h]
  exact go _ e (Nat.le_refl _)
/-- what is due where a term has ended and no space stands -/
def fin (t : List Nat) (e : Nat) : Nat := match t[e]? with
  | none => 0
  | some c => if isPm c then Cl t .mi (e + 1) else e + 1
def aft (t : List Nat) (e : Nat) : Nat := fin t (beh t e)
/-- what is due behind a number -/
def num (t : List Nat) (e : Nat) : Nat := if t[beh t e]? = some 42 then Cl t .st (beh t e + 1) else aft t e
theorem cl_en (h : t[e]? ≠ some 32) : Cl t .en e = fin t e := by
  unfold fin
  cases h2 : t[e]? with
  | none => rw [cl_end h2]; rfl
  | some c =>
    have hc : c ≠ 32 := fun z => h (by rw [h2, z])
    have n : nx .en c = if isPm c then some .mi else none := by unfold nx; rw [if_neg hc]
    show _ = if isPm c then _ else _
    cases hp : isPm c with
    | true => rw [cl_step h2 (by rw [n, hp]; rfl)]; rfl
    | false => rw [cl_fail h2 (by rw [n, hp]; rfl)]; rfl
theorem cl_gp (h : t[e]? ≠ some 32) : Cl t .gp e = if t[e]? = some 42 then Cl t .st (e + 1) else fin t e := by
  unfold fin
  cases h2 : t[e]? with
  | none => rw [cl_end h2]; rfl
  | some c =>
    have hc : c ≠ 32 := fun z => h (by rw [h2, z])
    have n : nx .gp c = if c = 42 then some .st else if isPm c then some .mi else none := by unfold nx; rw [if_neg hc]
    by_cases h3 : c = 42
    · subst h3
      rw [if_pos rfl, cl_step h2 (by rw [n]; rfl)]
    · rw [if_neg (fun z => h3 (Option.some.inj z))]
      rw [if_neg h3] at n
      show _ = if isPm c then _ else _
      cases hp : isPm c with
      | true => rw [cl_step h2 (by rw [n, hp]; rfl)]; rfl
      | false => rw [cl_fail h2 (by rw [n, hp]; rfl)]; rfl
/-- behind x or a power -/
theorem aft_of (hm : nx m 32 = some .en) (ha : acc m = true) (hn : ∀ c, t[e]? = some c → c ≠ 32 → nx m c = if isPm c then some .mi else none) : Cl t m e = aft t e := by
  unfold aft
  by_cases h : t[e]? = some 32
  · rw [cl_step h hm, cl_beh (m := .en) rfl, ← beh_sp h]
    exact cl_en (beh_ne t e)
  · rw [beh_no h]
    unfold fin
    cases h2 : t[e]? with
    | none => rw [cl_end h2, ha]; rfl
    | some c =>
      have hc : c ≠ 32 := fun z => h (by rw [h2, z])
      have n := hn c h2 hc
      show _ = if isPm c then _ else _
      cases hp : isPm c with
      | true => rw [cl_step h2 (by rw [n, hp]; rfl)]; rfl
      | false => rw [cl_fail h2 (by rw [n, hp]; rfl)]; rfl
/-- behind a number's figures -/
theorem num_of (hm : nx m 32 = some .gp) (ha : acc m = true) (hn : ∀ c, t[e]? = some c → c ≠ 32 → nx m c = if c = 42 then some .st else if isPm c then some .mi else none) : Cl t m e = num t e := by
  unfold num aft
  by_cases h : t[e]? = some 32
  · rw [cl_step h hm, cl_beh (m := .gp) rfl, ← beh_sp h]
    exact cl_gp (beh_ne t e)
  · rw [beh_no h]
    unfold fin
    cases h2 : t[e]? with
    | none => rw [cl_end h2, ha]; rfl
    | some c =>
      have hc : c ≠ 32 := fun z => h (by rw [h2, z])
      have n := hn c h2 hc
      by_cases h3 : c = 42
      · subst h3
        rw [if_pos rfl, cl_step h2 (by rw [n]; rfl)]
      · rw [if_neg (fun z => h3 (Option.some.inj z))]
        rw [if_neg h3] at n
        show _ = if isPm c then _ else _
        cases hp : isPm c with
        | true => rw [cl_step h2 (by rw [n, hp]; rfl)]; rfl
        | false => rw [cl_fail h2 (by rw [n, hp]; rfl)]; rfl
/-! ### figures -/
def seg (t : List Nat) (a j : Nat) : List Nat := (t.drop a).take j
/-- j figures from a on, as many as are read -/
structure Wh (t : List Nat) (a j : Nat) : Prop where
  j1 : 1 ≤ j
  j40 : j ≤ 40
  dg : ∀ i, i < j → ∃ c, t[a + i]? = some c ∧ isD c = true
  z : t[a]? = some 48 → j = 1
  stop : t[a]? = some 48 ∨ j = 40 ∨ ∀ c, t[a + j]? = some c → isD c = false
theorem seg_at (a j i : Nat) (h : i < j) : (seg t a j)[i]? = t[a + i]? := by
  unfold seg
  rw [List.getElem?_take, if_pos h, List.getElem?_drop]
theorem seg_len {a j : Nat} (h : ∀ i, i < j → ∃ c, t[a + i]? = some c ∧ isD c = true) : (seg t a j).length = j := by
  unfold seg
  rw [List.length_take, List.length_drop]
  cases j with
  | zero => omega
  | succ j =>
    obtain ⟨c, h1, _⟩ := h j (by omega)
    have := (List.getElem?_eq_some_iff.mp h1).1
    omega
theorem seg_dig {a j : Nat} (h : ∀ i, i < j → ∃ c, t[a + i]? = some c ∧ isD c = true) : ∀ c ∈ seg t a j, isD c = true := by
  intro c hc
  obtain ⟨i, hi⟩ := List.getElem?_of_mem hc
  have hl : i < j := by
    have := (List.getElem?_eq_some_iff.mp hi).1
    rw [seg_len h] at this
    exact this
  obtain ⟨d, h1, h2⟩ := h i hl
  rw [seg_at a j i hl, h1] at hi
  cases hi
  exact h2
theorem seg_succ {a j c : Nat} (h : t[a + j]? = some c) : seg t a (j + 1) = seg t a j ++ [c] := by
  unfold seg
  rw [List.take_succ, List.getElem?_drop, h]
  rfl
theorem seg_one {a c : Nat} (h : t[a]? = some c) : seg t a 1 = [c] := by
  have := seg_succ (t := t) (a := a) (j := 0) h
  simpa [seg] using this
theorem seg_head {a j c : Nat} (h : t[a]? = some c) (hj : 1 ≤ j) : ∃ l, seg t a j = c :: l := by
  unfold seg
  rw [drop_some h]
  cases j with
  | zero => omega
  | succ j => exact ⟨_, rfl⟩
/-- a mode reads figure by figure -/
theorem run_of {f : List Nat → Md} (hf : ∀ s c, isD c = true → nx (f s) c = nxN f s c) {a j : Nat} (W : Wh t a j) : ∀ k, 1 ≤ k → k ≤ j → Cl t (f (seg t a 1)) (a + 1) = Cl t (f (seg t a k)) (a + k) := by
  intro k
  induction k with
  | zero => intro h; omega
  | succ k ih =>
    intro h1 h2
    by_cases hk : k = 0
    · subst hk
      rfl
    · rw [ih (by omega) (by omega)]
      obtain ⟨c, h3, h4⟩ := W.dg k (by omega)
      obtain ⟨c0, g3, g4⟩ := W.dg 0 (by have := W.j1; omega)
      have l := seg_len (t := t) (a := a) (j := k) fun i hi => W.dg i (by omega)
      have nz : seg t a k ≠ [48] := fun z => by
        obtain ⟨r, e⟩ := seg_head (t := t) (a := a) (j := k) (c := c0) g3 (by omega)
        rw [e] at z
        have : c0 = 48 := (List.cons.inj z).1
        subst this
        have := W.z g3
        omega
      rw [cl_step h3 (m' := f (seg t a k ++ [c])) (by rw [hf _ _ h4]; unfold nxN; rw [if_pos ⟨nz, by have := W.j40; omega⟩]), seg_succ h3]
      rfl
theorem run_stop {f : List Nat → Md} (hf : ∀ s c, isD c = true → nx (f s) c = nxN f s c) {a j c : Nat} (W : Wh t a j) (h : t[a + j]? = some c) (hd : isD c = true) : nx (f (seg t a j)) c = none := by
  rw [hf _ _ hd]
  unfold nxN
  refine if_neg fun z => ?_
  rcases W.stop with h1 | h1 | h1
  · have := W.z h1
    subst this
    exact z.1 (seg_one h1)
  · have := seg_len W.dg
    omega
  · rw [h1 c h] at hd
    cases hd
theorem tp_dig (s : List Nat) (c : Nat) (h : isD c = true) : nx (.tp s) c = nxN .tp s c := by
  have hc : 48 ≤ c ∧ c ≤ 57 := of_decide_eq_true h
  unfold nx
  rw [if_neg (by omega)]
  show (if isD c then nxN .tp s c else _) = _
  rw [if_pos h]
theorem un_dig (s : List Nat) (c : Nat) (h : isD c = true) : nx (.un s) c = nxN .un s c := by
  have hc : 48 ≤ c ∧ c ≤ 57 := of_decide_eq_true h
  unfold nx
  rw [if_neg (by omega)]
  show (if isD c then nxN .un s c else _) = _
  rw [if_pos h]
/-- a whole number and no / behind it -/
theorem num_tp {a j : Nat} (W : Wh t a j) (h : t[a + j]? ≠ some 47) : Cl t .mi a = num t (a + j) := by
  obtain ⟨c, h1, h2⟩ := W.dg 0 (by have := W.j1; omega)
  have hc : 48 ≤ c ∧ c ≤ 57 := of_decide_eq_true h2
  have n : nx .mi c = some (.tp [c]) := by
    unfold nx
    rw [if_neg (by omega)]
    show (if c = 120 then _ else if isD c then _ else _) = _
    rw [if_neg (by omega), if_pos h2]
  rw [cl_step (e := a) h1 n, ← seg_one (t := t) (a := a) h1, run_of tp_dig W j W.j1 (Nat.le_refl _)]
  refine num_of rfl rfl fun d hd ds => ?_
  cases hdd : isD d with
  | true =>
    have hd9 : 48 ≤ d ∧ d ≤ 57 := of_decide_eq_true hdd
    rw [run_stop tp_dig W hd hdd, if_neg (by omega), show isPm d = false from decide_eq_false (by omega)]
    rfl
  | false =>
    unfold nx
    rw [if_neg ds]
    show (if isD d then _ else if d = 47 then _ else _) = _
    rw [hdd, if_neg (by decide), if_neg (fun z => h (by rw [hd, z]))]
/-- a whole number and / behind it -/
theorem sl_tp {a j : Nat} (W : Wh t a j) (h : t[a + j]? = some 47) : Cl t .mi a = Cl t .sl (a + j + 1) := by
  obtain ⟨c, h1, h2⟩ := W.dg 0 (by have := W.j1; omega)
  have hc : 48 ≤ c ∧ c ≤ 57 := of_decide_eq_true h2
  have n : nx .mi c = some (.tp [c]) := by
    unfold nx
    rw [if_neg (by omega)]
    show (if c = 120 then _ else if isD c then _ else _) = _
    rw [if_neg (by omega), if_pos h2]
  rw [cl_step (e := a) h1 n, ← seg_one (t := t) (a := a) h1, run_of tp_dig W j W.j1 (Nat.le_refl _)]
  exact cl_step h rfl
theorem sl_no (h : ∀ c, t[e]? = some c → isD c = false) : Cl t .sl e = e + 1 := by
  cases h2 : t[e]? with
  | none => rw [cl_end h2]; rfl
  | some c =>
    refine cl_fail h2 ?_
    unfold nx
    split
    · rfl
    · show (if isD c = true ∧ c ≠ 48 then _ else _) = _
      rw [if_neg (fun z => by rw [h c h2] at z; cases z.1)]
theorem sl_zero (h : t[e]? = some 48) : Cl t .sl e = e + 1 := cl_fail h rfl
theorem num_un {a j : Nat} (W : Wh t a j) (h : t[a]? ≠ some 48) : Cl t .sl a = num t (a + j) := by
  obtain ⟨c, h1, h2⟩ := W.dg 0 (by have := W.j1; omega)
  have hc : 48 ≤ c ∧ c ≤ 57 := of_decide_eq_true h2
  have n : nx .sl c = some (.un [c]) := by
    unfold nx
    rw [if_neg (by omega)]
    show (if isD c = true ∧ c ≠ 48 then _ else _) = _
    rw [if_pos ⟨h2, fun z => h (by rw [show t[a]? = some c from h1, z])⟩]
  rw [cl_step (e := a) h1 n, ← seg_one (t := t) (a := a) h1, run_of un_dig W j W.j1 (Nat.le_refl _)]
  refine num_of rfl rfl fun d hd ds => ?_
  cases hdd : isD d with
  | true =>
    have hd9 : 48 ≤ d ∧ d ≤ 57 := of_decide_eq_true hdd
    rw [run_stop un_dig W hd hdd, if_neg (by omega), show isPm d = false from decide_eq_false (by omega)]
    rfl
  | false =>
    unfold nx
    rw [if_neg ds]
    show (if isD d then _ else if d = 42 then _ else _) = _
    rw [hdd, if_neg (by decide)]
theorem mi_no (h : t[e]? ≠ some 32) (hx : t[e]? ≠ some 120) (hd : ∀ c, t[e]? = some c → isD c = false) : Cl t .mi e = e + 1 := by
  cases h2 : t[e]? with
  | none => rw [cl_end h2]; rfl
  | some c =>
    refine cl_fail h2 ?_
    unfold nx
    rw [if_neg (fun z => h (by rw [h2, z]))]
    show (if c = 120 then _ else if isD c then _ else _) = _
    rw [if_neg (fun z => hx (by rw [h2, z])), hd c h2]
    rfl
/-! ### x and powers -/
theorem mi_x (h : t[e]? = some 120) : Cl t .mi e = Cl t .xx (e + 1) := cl_step h rfl
theorem st_x (h : t[e]? = some 120) : Cl t .st e = Cl t .xx (e + 1) := cl_step h rfl
theorem st_no (h : t[e]? ≠ some 32) (hx : t[e]? ≠ some 120) : Cl t .st e = e + 1 := by
  cases h2 : t[e]? with
  | none => rw [cl_end h2]; rfl
  | some c =>
    refine cl_fail h2 ?_
    unfold nx
    rw [if_neg (fun z => h (by rw [h2, z]))]
    show (if c = 120 then _ else _) = _
    rw [if_neg (fun z => hx (by rw [h2, z]))]
theorem xx_no (h : t[e]? ≠ some 94) : Cl t .xx e = aft t e := aft_of rfl rfl fun c hc hs => by
  unfold nx
  rw [if_neg hs]
  show (if c = 94 then _ else _) = _
  rw [if_neg (fun z => h (by rw [hc, z]))]
theorem xx_hat (h : t[e]? = some 94) : Cl t .xx e = Cl t .ht (e + 1) := cl_step h rfl
theorem ht_no (h : ∀ c, t[e]? = some c → isD c = false) : Cl t .ht e = e + 1 := by
  cases h2 : t[e]? with
  | none => rw [cl_end h2]; rfl
  | some c =>
    refine cl_fail h2 ?_
    unfold nx
    split
    · rfl
    · show (if isD c then _ else _) = _
      rw [h c h2]
      rfl
theorem ht_dig (h : t[e]? = some c) (hd : isD c = true) : Cl t .ht e = Cl t (.pw [c]) (e + 1) := by
  have hc : 48 ≤ c ∧ c ≤ 57 := of_decide_eq_true hd
  refine cl_step h ?_
  unfold nx
  rw [if_neg (by omega)]
  show (if isD c then _ else _) = _
  rw [if_pos hd]
theorem pw_two {a b : Nat} : Cl t (.pw [a, b]) e = aft t e := aft_of rfl rfl fun c hc hs => by
  unfold nx
  rw [if_neg hs]
  show (if [a, b] = [49] ∧ _ then _ else _) = _
  rw [if_neg (fun z => by cases z.1)]
theorem pw_one (h : c = 49 → ∀ d, t[e]? = some d → ¬ (48 ≤ d ∧ d ≤ 50)) : Cl t (.pw [c]) e = aft t e := aft_of rfl rfl fun d hd hs => by
  unfold nx
  rw [if_neg hs]
  show (if [c] = [49] ∧ 48 ≤ d ∧ d ≤ 50 then _ else _) = _
  rw [if_neg (fun z => h (List.cons.inj z.1).1 d hd z.2)]
/-- ten, eleven, twelve -/
theorem ht_ten {d : Nat} (h : t[e]? = some 49) (h2 : t[e + 1]? = some d) (hd : 48 ≤ d ∧ d ≤ 50) : Cl t .ht e = aft t (e + 2) := by
  rw [ht_dig h rfl, cl_step h2 (m' := .pw [49, d]) ?_]
  · exact pw_two
  · unfold nx
    rw [if_neg (by omega)]
    show (if [49] = [49] ∧ 48 ≤ d ∧ d ≤ 50 then some (Md.pw ([49] ++ [d])) else _) = _
    rw [if_pos ⟨rfl, hd⟩]
    rfl
/-! ### the begin -/
theorem bg_minus (h : t[e]? = some 45) : Cl t .bg e = Cl t .mi (e + 1) := cl_step h rfl
theorem bg_mi (h : t[e]? ≠ some 32) (h2 : t[e]? ≠ some 45) : Cl t .bg e = Cl t .mi e := by
  cases h3 : t[e]? with
  | none => rw [cl_end h3, cl_end h3]; rfl
  | some c =>
    have hs : c ≠ 32 := fun z => h (by rw [h3, z])
    have hm : c ≠ 45 := fun z => h2 (by rw [h3, z])
    have n : nx .bg c = nx .mi c := by
      show (if c = 32 then some Md.bg else if c = 45 then _ else _) = (if c = 32 then some Md.mi else _)
      rw [if_neg hs, if_neg hm]
      exact (if_neg hs).symm
    cases hn : nx .mi c with
    | none => rw [cl_fail h3 hn, cl_fail h3 (n.trans hn)]
    | some m' => rw [cl_step h3 hn, cl_step h3 (n.trans hn)]
end
end Vf

set_option maxRecDepth 100000
set_option maxHeartbeats 4000000
/-! the figures of a whole number; numbers, powers and terms as they are written -/
namespace Vf
open PySem PySem.Spec PyProof.Rows L2
def digs (n : Nat) : List Nat := (Nat.toDigits 10 n).map Char.toNat
theorem digs_tx (n : Nat) : Str.ofString (toString ((n : Nat) : Int)) = Tx (digs n) := by
  have := PySem.W.KIN.signs_num n
  obtain ⟨l, e⟩ := tx_of (Str.ofString (toString ((n : Nat) : Int)))
  rw [e] at this ⊢
  rw [tx_cps] at this
  rw [this]
  rfl
theorem digs_val (n : Nat) : PySem.NumText.digitsVal (digs n) = n := PySem.W.KIN.val_back n
theorem digs_d (n : Nat) : ∀ c ∈ digs n, isD c = true := by
  intro c hc
  obtain ⟨ch, hch, e⟩ := List.mem_map.mp hc
  have r := digit_range (Nat.isDigit_of_mem_toDigits (by decide) (by decide) hch)
  rw [← e]
  exact decide_eq_true r
theorem digs_len {n k : Nat} (hk : 1 ≤ k) (h : n < 10 ^ k) : (digs n).length ≤ k := by
  unfold digs
  rw [List.length_map]
  exact digits10_le hk h
theorem digs_ge (n : Nat) : 1 ≤ (digs n).length := by
  unfold digs
  rw [List.length_map]
  exact tDigits_len_ge 10 n
theorem digs_lt {n : Nat} (h : n < 10) : digs n = [n + 48] := by
  have : n = 0 ∨ n = 1 ∨ n = 2 ∨ n = 3 ∨ n = 4 ∨ n = 5 ∨ n = 6 ∨ n = 7 ∨ n = 8 ∨ n = 9 := by omega
  rcases this with h | h | h | h | h | h | h | h | h | h <;> subst h <;> decide +kernel
/-- a number that is not 0 does not begin with 0 -/
theorem digs_head {n : Nat} (h : n ≠ 0) : (digs n)[0]? ≠ some 48 := by
  induction n using Nat.strongRecOn with
  | _ n ih =>
    by_cases hl : n < 10
    · rw [digs_lt hl]
      intro z
      have : n + 48 = 48 := Option.some.inj z
      omega
    · have hm : n % 10 < 10 := Nat.mod_lt n (by decide)
      have t : Nat.toDigits 10 (n / 10) ++ Nat.toDigits 10 (n % 10) = Nat.toDigits 10 (10 * (n / 10) + n % 10) := Nat.toDigits_append_toDigits (by decide) (by omega) hm
      rw [Nat.div_add_mod] at t
      have e : digs n = digs (n / 10) ++ digs (n % 10) := by
        unfold digs
        rw [← t, List.map_append]
      rw [e, List.getElem?_append_left (digs_ge (n / 10))]
      exact ih (n / 10) (by omega) (by omega)
theorem digs_zero : digs 0 = [48] := by decide +kernel
theorem digs_eq_one {n : Nat} (h : digs n = [49]) : n = 1 := by
  have := digs_val n
  rw [h] at this
  exact this.symm
def sp (g : Nat) : List Nat := List.replicate g 32
theorem beh_of {t : List Nat} {e g : Nat} {r : List Nat} (h : t.drop e = sp g ++ r) (hr : r[0]? ≠ some 32) : beh t e = e + g := by
  unfold beh
  rw [h]
  congr 1
  clear h
  induction g with
  | zero =>
    cases r with
    | nil => rfl
    | cons c r =>
      show (if c = 32 then _ else 0) = 0
      rw [if_neg (fun z => hr (by rw [z]; rfl))]
  | succ g ih =>
    show (if (32 : Nat) = 32 then spc (sp g ++ r) + 1 else 0) = g + 1
    rw [if_pos rfl, ih]
section
variable {t x r : List Nat} {a : Nat}
theorem drop_app (h : t.drop a = x ++ r) : t.drop (a + x.length) = r := by
  rw [← List.drop_drop, h, List.drop_left]
theorem drop_at (h : t.drop a = x ++ r) (i : Nat) (hi : i < x.length) : t[a + i]? = x[i]? := by
  rw [← List.getElem?_drop, h, List.getElem?_append_left hi]
theorem drop_hd (h : t.drop a = r) : t[a]? = r[0]? := by
  rw [← h, List.getElem?_drop]
  rfl
theorem drop_le (h : t.drop a = x ++ r) (hx : x ≠ []) : a + x.length ≤ t.length := by
  have := congrArg List.length h
  rw [List.length_drop, List.length_append] at this
  have : 0 < x.length := List.length_pos_iff.mpr hx
  omega
theorem drop_cons {c : Nat} (h : t.drop a = c :: r) : t[a]? = some c ∧ t.drop (a + 1) = r := ⟨drop_hd h, drop_app (x := [c]) h⟩
end
/-- figures are read as far as they go -/
theorem wh_digs {t : List Nat} {a n : Nat} {r : List Nat} (h : t.drop a = digs n ++ r) (hn : n < 10 ^ 40) (hr : ∀ c, r[0]? = some c → isD c = false) : ∀ j, Wh t a j → j = (digs n).length ∧ seg t a j = digs n := by
  intro j W
  have hl := digs_len (by decide) hn
  have hg := digs_ge n
  have dd : ∀ i, i < (digs n).length → ∃ c, t[a + i]? = some c ∧ isD c = true := fun i hi => by
    rw [drop_at h i hi, List.getElem?_eq_getElem hi]
    exact ⟨_, rfl, digs_d n _ (List.getElem_mem hi)⟩
  have ej : j = (digs n).length := by
    rcases Nat.lt_trichotomy j (digs n).length with hlt | heq | hgt
    · exfalso
      rcases W.stop with h1 | h1 | h1
      · have j1 := W.z h1
        by_cases h0 : n = 0
        · subst h0
          rw [digs_zero] at hlt
          simp at hlt
          have := W.j1
          omega
        · have e0 := drop_at h 0 (by omega)
          rw [Nat.add_zero, h1] at e0
          exact digs_head h0 e0.symm
      · omega
      · obtain ⟨c, h2, h3⟩ := dd j hlt
        rw [h1 c h2] at h3
        cases h3
    · exact heq
    · exfalso
      obtain ⟨c, h2, h3⟩ := W.dg _ hgt
      have e := drop_hd (drop_app h)
      rw [h2] at e
      rw [hr c e.symm] at h3
      cases h3
  refine ⟨ej, ?_⟩
  subst ej
  unfold seg
  rw [h, List.take_left]
theorem dig_first {t : List Nat} {a n : Nat} {r : List Nat} (h : t.drop a = digs n ++ r) : ∃ c, t[a]? = some c ∧ isD c = true := by
  have hi := digs_ge n
  have e := drop_at h 0 (by omega)
  have e2 : (digs n)[0]? = some (digs n)[0] := List.getElem?_eq_getElem (by omega)
  rw [Nat.add_zero, e2] at e
  exact ⟨_, e, digs_d n _ (List.getElem_mem _)⟩
inductive NumB : List Nat → Nat → Nat → Prop
  | one {n : Nat} : n < 10 ^ 40 → NumB (digs n) n 1
  | two {n m : Nat} : n < 10 ^ 40 → m < 10 ^ 40 → 0 < m → NumB (digs n ++ 47 :: digs m) n m
inductive PowB : List Nat → Nat → Prop
  | x : PowB [120] 1
  | pw {k : Nat} : k ≤ 12 → PowB (120 :: 94 :: digs k) k
inductive TermB : List Nat → Nat → Nat → Nat → Prop
  | num {b : List Nat} {x y : Nat} : NumB b x y → TermB b x y 0
  | pow {b : List Nat} {k : Nat} : PowB b k → TermB b 1 1 k
  | both {nb pb : List Nat} {x y k : Nat} (g1 g2 : Nat) : NumB nb x y → PowB pb k → TermB (nb ++ (sp g1 ++ 42 :: (sp g2 ++ pb))) x y k
def NumE (r : List Nat) : Prop := ∀ c, r[0]? = some c → isD c = false ∧ c ≠ 47
def PowE (r : List Nat) : Prop := ∀ c, r[0]? = some c → isD c = false ∧ c ≠ 94
/-- what may stand behind a term -/
def TermE (r : List Nat) : Prop := ∃ g r', r = sp g ++ r' ∧ ∀ c, r'[0]? = some c → c = 43 ∨ c = 45
theorem sp_head {g : Nat} {r : List Nat} {c : Nat} (h : (sp g ++ r)[0]? = some c) : c = 32 ∨ (g = 0 ∧ r[0]? = some c) := by
  cases g with
  | zero => exact .inr ⟨rfl, h⟩
  | succ g => exact .inl (Option.some.inj h).symm
theorem TermE.head {r : List Nat} (h : TermE r) : ∀ c, r[0]? = some c → c = 32 ∨ c = 43 ∨ c = 45 := by
  obtain ⟨g, r', rfl, hr⟩ := h
  intro c hc
  rcases sp_head hc with h | ⟨_, h⟩
  · exact .inl h
  · exact .inr (hr c h)
theorem TermE.num {r : List Nat} (h : TermE r) : NumE r := fun c hc => by
  rcases h.head c hc with rfl | rfl | rfl <;> exact ⟨by decide, by decide⟩
theorem TermE.pow {r : List Nat} (h : TermE r) : PowE r := fun c hc => by
  rcases h.head c hc with rfl | rfl | rfl <;> exact ⟨by decide, by decide⟩
theorem NumB.ne {b : List Nat} {x y : Nat} (h : NumB b x y) : b ≠ [] := by
  cases h with
  | one => exact fun z => by have := digs_ge x; rw [z] at this; simp at this
  | two => exact fun z => by simp at z
theorem NumB.first {b : List Nat} {x y : Nat} (h : NumB b x y) : ∃ c, b[0]? = some c ∧ isD c = true := by
  have go : ∀ n r, ∃ c, (digs n ++ r)[0]? = some c ∧ isD c = true := fun n r => by
    have hi := digs_ge n
    rw [List.getElem?_append_left (by omega), List.getElem?_eq_getElem (by omega)]
    exact ⟨_, rfl, digs_d n _ (List.getElem_mem _)⟩
  cases h with
  | one => have := go x []; rw [List.append_nil] at this; exact this
  | two => exact go x _
theorem NumB.sz {b : List Nat} {x y : Nat} (h : NumB b x y) : x < 10 ^ 40 ∧ y < 10 ^ 40 ∧ 0 < y := by
  cases h with
  | one h => exact ⟨h, by decide, by decide⟩
  | two h1 h2 h3 => exact ⟨h1, h2, h3⟩
theorem TermB.sz {b : List Nat} {x y k : Nat} (h : TermB b x y k) : x < 10 ^ 40 ∧ y < 10 ^ 40 ∧ 0 < y ∧ k ≤ 12 := by
  cases h with
  | num h => exact ⟨h.sz.1, h.sz.2.1, h.sz.2.2, by decide⟩
  | pow h => exact ⟨by decide, by decide, by decide, by cases h <;> omega⟩
  | both _ _ h1 h2 => exact ⟨h1.sz.1, h1.sz.2.1, h1.sz.2.2, by cases h2 <;> omega⟩
/-- a term begins with a figure or with x -/
theorem TermB.first {b : List Nat} {x y k : Nat} (h : TermB b x y k) : ∃ c, b[0]? = some c ∧ (isD c = true ∨ c = 120) := by
  cases h with
  | num h => obtain ⟨c, h1, h2⟩ := h.first; exact ⟨c, h1, .inl h2⟩
  | pow h => cases h <;> exact ⟨120, rfl, .inr rfl⟩
  | both _ _ h1 h2 =>
    obtain ⟨c, h3, h4⟩ := h1.first
    refine ⟨c, ?_, .inl h4⟩
    have := List.length_pos_iff.mpr h1.ne
    rw [List.getElem?_append_left this]
    exact h3
/-- what may stand behind a term, and what it says: each sign, number above, below, power -/
inductive Tail : List Nat → List (Int × Nat × Nat × Nat) → Prop
  | nil : Tail [] []
  | cons {b r : List Nat} {x y k : Nat} {L : List (Int × Nat × Nat × Nat)} (s : Int) (g1 g2 : Nat) : (s = 1 ∨ s = -1) → TermB b x y k → Tail r L → Tail ((if s = 1 then 43 else 45) :: (sp g1 ++ (b ++ (sp g2 ++ r)))) ((s, x, y, k) :: L)
theorem Tail.head {r : List Nat} {L : List (Int × Nat × Nat × Nat)} (h : Tail r L) : ∀ c, r[0]? = some c → c = 43 ∨ c = 45 := by
  intro c hc
  cases h with
  | nil => cases hc
  | cons s g1 g2 hs _ _ =>
    have e : (if s = 1 then 43 else 45) = c := Option.some.inj hc
    split at e <;> omega
theorem Tail.te {r : List Nat} {L : List (Int × Nat × Nat × Nat)} (h : Tail r L) (g : Nat) : TermE (sp g ++ r) := ⟨g, r, rfl, h.head⟩
/-- a whole text of a polynomial -/
inductive TextB : List Nat → List (Int × Nat × Nat × Nat) → Prop
  | mk {b r : List Nat} {x y k : Nat} {L : List (Int × Nat × Nat × Nat)} (s : Int) (g0 g1 g2 : Nat) : (s = 1 ∨ s = -1) → TermB b x y k → Tail r L → TextB (sp g0 ++ ((if s = 1 then [] else [45]) ++ (sp g1 ++ (b ++ (sp g2 ++ r))))) ((s, x, y, k) :: L)
end Vf

set_option maxRecDepth 100000
set_option maxHeartbeats 8000000
namespace Vf
open PySem PySem.Spec PyProof.Rows L2
/-! ### the reader of programs, as functions -/
def dgA (t : List Nat) (a : Nat) : Bool := match t[a]? with
  | some c => isD c
  | none => false
theorem dgA_some {t : List Nat} {a : Nat} (h : dgA t a = true) : ∃ c, t[a]? = some c ∧ isD c = true := by
  unfold dgA at h
  cases h2 : t[a]? with
  | none => rw [h2] at h; cases h
  | some c => rw [h2] at h; exact ⟨c, rfl, h⟩
theorem dgA_no {t : List Nat} {a : Nat} (h : dgA t a = false) : ∀ c, t[a]? = some c → isD c = false := by
  intro c hc
  unfold dgA at h
  rw [hc] at h
  exact h
theorem dgA_of {t : List Nat} {a c : Nat} (h : t[a]? = some c) : dgA t a = isD c := by
  unfold dgA
  rw [h]
theorem ix_tx {t : List Nat} {a c : Nat} {i : Int} (h : t[a]? = some c) (e : i = (a : Int)) : atI (Tx t).cps.toList i = some c := by
  rw [tx_cps]
  have hl := (List.getElem?_eq_some_iff.mp h).1
  unfold atI ixN
  rw [if_pos (by omega), if_pos (by omega)]
  show t[i.toNat]? = some c
  rw [show i.toNat = a by omega]
  exact h
abbrev Ex' (α : Type) := Except Nat α
def isL (c : Nat) : Bool := decide (97 ≤ c ∧ c ≤ 122)
def isN (c : Nat) : Bool := isL c || isD c
def runN : List Nat → Nat
  | [] => 0
  | c :: l => if isN c then runN l + 1 else 0
def rEnd (t : List Nat) (a : Nat) : Nat := a + runN (t.drop a)
theorem rEnd_yes {t : List Nat} {a c : Nat} (h : t[a]? = some c) (hn : isN c = true) : rEnd t a = rEnd t (a + 1) := by
  unfold rEnd
  rw [drop_some h]
  show a + (if isN c = true then runN (t.drop (a + 1)) + 1 else 0) = _
  rw [if_pos hn]
  omega
theorem rEnd_no {t : List Nat} {a : Nat} (h : ∀ c, t[a]? = some c → isN c = false) : rEnd t a = a := by
  unfold rEnd
  cases h2 : t[a]? with
  | none => rw [drop_none h2]; rfl
  | some c =>
    rw [drop_some h2]
    show a + (if isN c = true then _ else 0) = _
    rw [if_neg (by rw [h c h2]; decide)]
    rfl
theorem runN_le : ∀ l : List Nat, runN l ≤ l.length
  | [] => Nat.le_refl _
  | c :: l => by
    show (if isN c = true then runN l + 1 else 0) ≤ l.length + 1
    have := runN_le l
    split <;> omega
theorem rEnd_le (t : List Nat) (a : Nat) : a ≤ rEnd t a := by unfold rEnd; omega
theorem rEnd_len {t : List Nat} {a : Nat} (h : a ≤ t.length) : rEnd t a ≤ t.length := by
  unfold rEnd
  have := runN_le (t.drop a)
  rw [List.length_drop] at this
  omega
def cutT (t : List Nat) (a e : Nat) : List Nat := (t.drop a).take (e - a)
/-- a name that is read -/
def pName (t : List Nat) (a : Nat) (br : List (List Nat)) : Ex' (List Nat × Nat) :=
  match t[a]? with
  | none => .error (a + 1)
  | some c => if isL c then
      (if 8 < rEnd t a - a then .error (a + 9)
      else if cutT t a (rEnd t a) ∈ br then .error (if rEnd t a - a = 8 then rEnd t a else rEnd t a + 1)
      else .ok (cutT t a (rEnd t a), rEnd t a))
    else .error (a + 1)
def pSpace (t : List Nat) (a : Nat) : Ex' Nat := if t[a]? = some 32 then .ok (beh t a) else .error (a + 1)
def pSign (t : List Nat) (a c : Nat) : Ex' Nat := if t[beh t a]? = some c then .ok (beh t a + 1) else .error (beh t a + 1)
/-- so many figures there -/
def runD : List Nat → Nat
  | [] => 0
  | c :: l => if isD c then runD l + 1 else 0
def digN (t : List Nat) (a most : Nat) : Nat := if t[a]? = some 48 then 1 else min most (runD (t.drop a))
def pDigits (t : List Nat) (a most : Nat) : Ex' (Nat × Nat) :=
  if dgA t a then
    (if dgA t (a + digN t a most) then .error (a + digN t a most + 1) else .ok (PySem.NumText.digitsVal (seg t a (digN t a most)), a + digN t a most))
  else .error (a + 1)
def pNumber (t : List Nat) (a : Nat) : Ex' (Int × Nat) :=
  if t[a]? = some 45 then (match pDigits t (a + 1) 30 with | .error c => .error c | .ok (n, e) => .ok (-(n : Int), e))
  else (match pDigits t a 30 with | .error c => .error c | .ok (n, e) => .ok ((n : Int), e))
def pCount (t : List Nat) (a : Nat) : Ex' (Nat × Nat) :=
  if dgA t a = true ∧ t[a]? ≠ some 48 ∧ dgA t (a + 1) = true ∧ 60 < PySem.NumText.digitsVal (seg t a 2) then .error (a + 2) else pDigits t a 2
theorem runD_yes {t : List Nat} {a c : Nat} (h : t[a]? = some c) (hn : isD c = true) : runD (t.drop a) = runD (t.drop (a + 1)) + 1 := by
  rw [drop_some h]
  show (if isD c = true then runD (t.drop (a + 1)) + 1 else 0) = _
  rw [if_pos hn]
theorem runD_no {t : List Nat} {a : Nat} (h : dgA t a = false) : runD (t.drop a) = 0 := by
  cases h2 : t[a]? with
  | none => rw [drop_none h2]; rfl
  | some c =>
    rw [drop_some h2]
    show (if isD c = true then _ else 0) = _
    rw [if_neg (by rw [dgA_no h c h2]; decide)]
/-- the first figures -/
theorem runD_of {t : List Nat} {a : Nat} : ∀ j, (∀ i, i < j → dgA t (a + i) = true) → runD (t.drop a) = j + runD (t.drop (a + j))
  | 0, _ => by rw [Nat.add_zero, Nat.zero_add]
  | j + 1, h => by
    rw [runD_of j fun i hi => h i (by omega)]
    obtain ⟨c, h1, h2⟩ := dgA_some (h j (by omega))
    rw [runD_yes h1 h2, show a + (j + 1) = a + j + 1 by omega]
    omega
def RaisesT (CT : Addr) (H : Hp) (c : Nat) (E : XK) : Prop := ∀ (d : Addr) (H' : Hp), Same H H' → H d = none → H' d = some (.xd (fl ["column"] [.int (c : Int)])) → E (.ref CT) (some d) H'
theorem RaisesT.same {CT : Addr} {H H1 : Hp} {c : Nat} {E : XK} (s : Same H H1) (h : RaisesT CT H c E) : RaisesT CT H1 c E := fun d H' s' n e => h d H' (s.trans s') (s.free n) e
/-- what a reader gives, or raises -/
def Tells (CT : Addr) (H : Hp) {α : Type} (r : Ex' α) (E : XK) (ok : α → Prop) : Prop := match r with
  | .error c => RaisesT CT H c E
  | .ok x => ok x
def sDIGITS : Str := "0123456789"
def sLETTERS : Str := "abcdefghijklmnopqrstuvwxyz"
def sNAME_SIGNS : Str := "abcdefghijklmnopqrstuvwxyz0123456789"
theorem in_letters (c : Nat) : decide (c ∈ sLETTERS.cps.toList) = isL c := by
  have e : sLETTERS.cps.toList = (List.range 26).map (· + 97) := by decide +kernel
  rw [e]
  unfold isL
  refine decide_eq_decide.mpr ?_
  simp only [List.mem_map, List.mem_range]
  constructor
  · rintro ⟨x, hx, rfl⟩; omega
  · intro h; exact ⟨c - 97, by omega, by omega⟩
theorem in_nsigns (c : Nat) : decide (c ∈ sNAME_SIGNS.cps.toList) = isN c := by
  have e : sNAME_SIGNS.cps.toList = (List.range 26).map (· + 97) ++ (List.range 10).map (· + 48) := by decide +kernel
  rw [e]
  unfold isN isL isD
  rw [← Bool.decide_or]
  refine decide_eq_decide.mpr ?_
  simp only [List.mem_append, List.mem_map, List.mem_range]
  constructor
  · rintro (⟨x, hx, rfl⟩ | ⟨x, hx, rfl⟩)
    · left; omega
    · right; omega
  · rintro (h | h)
    · left; exact ⟨c - 97, by omega, by omega⟩
    · right; exact ⟨c - 48, by omega, by omega⟩
theorem in_figs (c : Nat) : decide (c ∈ sDIGITS.cps.toList) = isD c := by
  have e : sDIGITS.cps.toList = [48, 49, 50, 51, 52, 53, 54, 55, 56, 57] := by decide +kernel
  rw [e, in_digits]
/-- the length a line may have -/
def LL : Nat := 10000
theorem big_line {t : List Nat} (h : t.length ≤ LL) : (Tx t).length ≤ sizeLine := by rw [tx_len, sizeLine_eq]; unfold LL at h; omega
/-- one sign, where there is one -/
theorem sign_none (o : Option Nat) : decide (V.str (Tx o.toList) = V.str (Tx [])) = decide (o = none) := by
  cases o with
  | none => rw [decide_eq_true (show V.str (Tx (none : Option Nat).toList) = V.str (Tx []) from rfl)]; rfl
  | some d => rw [decide_eq_false (fun z => by have := tx_inj (V.str.inj z); cases this), decide_eq_false (fun z => nomatch z)]
def spFrom (K : PySem.W.Frag) : Sp := fun vs H Q _ => ∃ (v : V) (d : PyData) (lo : Int), vs = [v, .int lo] ∧ Dt K H v d ∧ Q (.bl (match d with | .int i => decide (lo ≤ i) | _ => false)) H
def spBeh : Sp := fun vs H Q _ => ∃ (t : List Nat) (a : Nat), vs = [.str (Tx t), .int (a : Int)] ∧ t.length ≤ LL ∧ Q (.int ((beh t a : Nat) : Int)) H
def spIsD : Sp := fun vs H Q _ => ∃ (t : List Nat) (a : Nat), vs = [.str (Tx t), .int (a : Int)] ∧ t.length ≤ LL ∧ Q (.bl (dgA t a)) H
def spRunE : Sp := fun vs H Q _ => ∃ (t : List Nat) (a : Nat), vs = [.str (Tx t), .int (a : Int)] ∧ t.length ≤ LL ∧ Q (.int ((rEnd t a : Nat) : Int)) H
def spIsW : Sp := fun vs H Q _ => ∃ (t w : List Nat) (a : Nat), vs = [.str (Tx t), .int (a : Int), .str (Tx w)] ∧ t.length ≤ LL ∧ Q (.bl (decide (cutT t a (rEnd t a) = w))) H
def spRName (K : PySem.W.Frag) (CT : Addr) : Sp := fun vs H Q E => ∃ (t : List Nat) (a : Nat) (b : Addr) (br : List (List Nat)), vs = [.str (Tx t), .int (a : Int), .ref b] ∧ t.length ≤ LL ∧ SqT K H b (br.map fun w => V.str (Tx w)) ∧ br.length ≤ 10 ∧
  Tells CT H (pName t a br) E fun r => ∀ (p : Addr) (H' : Hp), Same H H' → H' p = some (.tup [.str (Tx r.1), .int (r.2 : Int)]) → Q (.ref p) H'
def spNSp (CT : Addr) : Sp := fun vs H Q E => ∃ (t : List Nat) (a : Nat), vs = [.str (Tx t), .int (a : Int)] ∧ t.length ≤ LL ∧ Tells CT H (pSpace t a) E fun e => Q (.int (e : Int)) H
def spNSg (CT : Addr) : Sp := fun vs H Q E => ∃ (t : List Nat) (a c : Nat), vs = [.str (Tx t), .int (a : Int), .str (Tx [c])] ∧ t.length ≤ LL ∧ Tells CT H (pSign t a c) E fun e => Q (.int (e : Int)) H
def spRDg (CT : Addr) : Sp := fun vs H Q E => ∃ (t : List Nat) (a most : Nat), vs = [.str (Tx t), .int (a : Int), .int (most : Int)] ∧ t.length ≤ LL ∧ 1 ≤ most ∧ most ≤ 600 ∧ Tells CT H (pDigits t a most) E fun r => ∀ (p : Addr) (H' : Hp), Same H H' → H' p = some (.tup [.int (r.1 : Int), .int (r.2 : Int)]) → Q (.ref p) H'
def spRNum (CT : Addr) : Sp := fun vs H Q E => ∃ (t : List Nat) (a : Nat), vs = [.str (Tx t), .int (a : Int)] ∧ t.length ≤ LL ∧ Tells CT H (pNumber t a) E fun r => ∀ (p : Addr) (H' : Hp), Same H H' → H' p = some (.tup [.int r.1, .int (r.2 : Int)]) → Q (.ref p) H'
def spRCnt (CT : Addr) : Sp := fun vs H Q E => ∃ (t : List Nat) (a : Nat), vs = [.str (Tx t), .int (a : Int)] ∧ t.length ≤ LL ∧ Tells CT H (pCount t a) E fun r => ∀ (p : Addr) (H' : Hp), Same H H' → H' p = some (.tup [.int (r.1 : Int), .int (r.2 : Int)]) → Q (.ref p) H'
section
variable {P : Program} {w : World} {K : PySem.W.Frag} {mg : Str → Option Value} {base : Heap} {CT CP CR CN : Addr}
abbrev sFrom : Stmt := topS 9
theorem scFrom : FnScope ["value", "least"] ["value", "least"] (defScope sFrom) := ⟨rfl, rfl, rfl, by decide +kernel, rfl, by decide +kernel, by decide +kernel⟩
theorem ok_from {f : Addr} {fd : FuncData} (F : Fun K "is_whole_from" "is_whole_from" sFrom f fd) (G_is_whole : Df P w K mg base "is_whole" 1 ["value"] (spWhole K)) : FnOk P w K mg base CX0 2 f fd ["value", "least"] (spFrom K) := by
  refine F.ok scFrom (fun vs H Q E h => ?_) (fun cdv A outer s H vs Q E hr h => ?_)
  · obtain ⟨v, d, lo, rfl, _⟩ := h
    rfl
  · obtain ⟨v, d, lo, rfl, hd, q⟩ := h
    refine ⟨_, (pss_one (ps_ret (pe_and (pe_call G_is_whole.ok (hr.mono (by decide)) rfl G_is_whole.m G_is_whole.kp G_is_whole.b .nil pass0 (pa_cons (pv 0) pa_nil)) (pe_one (pe_cmpR op_ge (pv 0) (pv 1) (nomark _)))))), ?_⟩
    refine ⟨_, rfl, v, d, rfl, hd, ?_⟩
    refine ⟨wholeD d, rfl, ?_⟩
    cases hd with
    | int i =>
      refine iteT ?_
      refine ⟨_, rfl, _, rfl, _, _, rfl, rfl, ?_⟩
      exact q
    | _ =>
      refine iteF ?_
      exact q
abbrev sBeh : Stmt := topS 12
theorem scBeh : FnScope ["text", "at"] ["text", "at"] (defScope sBeh) := ⟨rfl, rfl, rfl, by decide +kernel, rfl, by decide +kernel, by decide +kernel⟩
theorem ok_beh {f : Addr} {fd : FuncData} (F : Fun K "behind_spaces" "behind_spaces" sBeh f fd) : FnOk P w K mg base CX0 1 f fd ["text", "at"] spBeh := by
  refine F.ok scBeh (fun vs H Q E h => ?_) (fun cdv A outer s H vs Q E hr h => ?_)
  · obtain ⟨t, a, rfl, _⟩ := h
    rfl
  · obtain ⟨t, a, rfl, hl, q⟩ := h
    refine ⟨_, (pss_cons (ps_while PassesOwn.never (pt_cmpR op_eq (pe_slice sl_str (pv 0) (po_some (pv 1)) (po_some (pe_op op_add (pv 1) pe_int))) pe_str (nomark _))
    (pss_one (ps_set (i := 1) scBeh.nd rfl (Or.inl rfl) (pe_op op_add (pv 1) pe_int))))
  (pss_one (ps_ret (pv 1)))), ?_⟩
    refine ⟨fun m σ H1 => H1 = H ∧ ∃ b : Nat, m = t.length - b ∧ σ = [some (.str (Tx t)), some (.int (b : Int))] ∧ beh t b = beh t a, ⟨_, rfl, a, rfl, rfl, rfl⟩, ?_⟩
    rintro m σ H1 ⟨rfl, b, rfl, rfl, hb⟩
    refine ⟨_, rfl, _, rfl, _, rfl, _, rfl, _, _, rfl, rfl, _, rfl, ⟨Tx t, rfl, big_line hl, rfl, ?_⟩⟩
    refine ⟨_, rfl, ?_⟩
    rw [tx_sign t (m := b) rfl rfl, lit_sp, sign_eq]
    by_cases h : t[b]? = some 32
    · rw [decide_eq_true h]
      refine iteT ?_
      have := (List.getElem?_eq_some_iff.mp h).1
      refine ⟨fun σ' H' => H' = H1 ∧ σ' = [some (.str (Tx t)), some (.int ((b + 1 : Nat) : Int))], fun σ' H' ⟨h1, h2⟩ => ⟨t.length - (b + 1), by omega, h1, b + 1, rfl, h2, by rw [← beh_sp h]; exact hb⟩, ?_⟩
      refine ⟨_, rfl, _, _, rfl, rfl, ?_⟩
      exact ⟨rfl, rfl⟩
    · rw [decide_eq_false h]
      refine iteF ?_
      refine ⟨_, rfl, ?_⟩
      rw [beh_no h] at hb
      rw [hb]
      exact q
abbrev sIsD : Stmt := topS 13
theorem scIsD : FnScope ["text", "at"] ["text", "at"] (defScope sIsD) := ⟨rfl, rfl, rfl, by decide +kernel, rfl, by decide +kernel, by decide +kernel⟩
theorem ok_isd {f : Addr} {fd : FuncData} (F : Fun K "is_digit" "is_digit" sIsD f fd) (T : Bk mg) {u : Tok} (m_DIGITS : mg "DIGITS" = some (.str sDIGITS u)) : FnOk P w K mg base CX0 1 f fd ["text", "at"] spIsD := by
  refine F.ok scIsD (fun vs H Q E h => ?_) (fun cdv A outer s H vs Q E hr h => ?_)
  · obtain ⟨t, a, rfl, _⟩ := h
    rfl
  · obtain ⟨t, a, rfl, hl, q⟩ := h
    refine ⟨_, (pss_one (ps_ret (pe_and (pe_cmpR op_lt (pv 1) (pe_callB call_len_str (by rfl) T.len (by decide +kernel) (pa_cons (pv 0) pa_nil)) (nomark _)) (pe_one (pe_cmpR op_in_sign (pe_ix ix_str (pv 0) (pv 1) (fun _ _ => rfl)) (pe_glob (v := V.str sDIGITS) rfl m_DIGITS ⟨_, rfl⟩) (by rfl)))))), ?_⟩
    refine ⟨_, rfl, _, rfl, Tx t, rfl, big_line hl, ?_⟩
    refine ⟨_, _, rfl, rfl, _, rfl, ?_⟩
    rw [tx_len]
    by_cases h : a < t.length
    · rw [decide_eq_true (by omega)]
      refine iteT ?_
      have e : t[a]? = some t[a] := List.getElem?_eq_getElem h
      refine ⟨_, rfl, _, rfl, Tx t, _, t[a], rfl, rfl, big_line hl, ix_tx e rfl, _, _, rfl, rfl, ?_⟩
      rw [in_figs, ← dgA_of e]
      exact q
    · rw [decide_eq_false (by omega)]
      refine iteF ?_
      have e : dgA t a = false := by
        unfold dgA
        rw [List.getElem?_eq_none (by omega)]
      rw [e] at q
      exact q
abbrev sRunE : Stmt := topS 22
theorem scRunE : FnScope ["line", "at"] ["line", "at"] (defScope sRunE) := ⟨rfl, rfl, rfl, by decide +kernel, rfl, by decide +kernel, by decide +kernel⟩
theorem ok_rune {f : Addr} {fd : FuncData} (F : Fun K "run_end" "run_end" sRunE f fd) {u : Tok} (m_NAME_SIGNS : mg "NAME_SIGNS" = some (.str sNAME_SIGNS u)) : FnOk P w K mg base CX0 1 f fd ["line", "at"] spRunE := by
  refine F.ok scRunE (fun vs H Q E h => ?_) (fun cdv A outer s H vs Q E hr h => ?_)
  · obtain ⟨t, a, rfl, _⟩ := h
    rfl
  · obtain ⟨t, a, rfl, hl, q⟩ := h
    refine ⟨_, (C8.pss_cut (ps_while PassesOwn.never (PW.pt (pw_and (pt_cmpR op_ne (pe_slice sl_str (pv 0) (po_some (pv 1)) (po_some (pe_op op_add (pv 1) pe_int))) pe_str (nomark _)) (pw_and1 (pt_cmpR op_in_sign (pe_ix ix_str (pv 0) (pv 1) (fun _ _ => rfl)) (pe_glob (v := V.str sNAME_SIGNS) rfl m_NAME_SIGNS ⟨_, rfl⟩) (by rfl)))))
    (pss_one (ps_set (i := 1) scRunE.nd rfl (Or.inl rfl) (pe_op op_add (pv 1) pe_int))))
  (pss_one (ps_ret (pv 1)))), ?_⟩
    refine ⟨fun σ H1 => H1 = H ∧ σ = [some (.str (Tx t)), some (.int ((rEnd t a : Nat) : Int))], ?_, ?_⟩
    · refine ⟨fun m σ H1 => H1 = H ∧ ∃ b : Nat, m = t.length - b ∧ σ = [some (.str (Tx t)), some (.int (b : Int))] ∧ rEnd t b = rEnd t a, ⟨_, rfl, a, rfl, rfl, rfl⟩, ?_⟩
      rintro m σ H1 ⟨rfl, b, rfl, rfl, hb⟩
      refine ⟨_, rfl, _, rfl, _, rfl, _, rfl, _, _, rfl, rfl, _, rfl, ⟨Tx t, rfl, big_line hl, rfl, _, rfl, ?_⟩⟩
      rw [tx_sign t (m := b) rfl rfl, lit_empty, sign_none]
      cases h : t[b]? with
      | none =>
        rw [decide_eq_true rfl]
        refine iteF ?_
        refine iteF ?_
        exact ⟨rfl, by rw [← hb, rEnd_no (fun c z => by rw [h] at z; cases z)]⟩
      | some c =>
        rw [decide_eq_false (fun z => nomatch z)]
        refine iteT ?_
        refine ⟨_, rfl, _, rfl, Tx t, _, c, rfl, rfl, big_line hl, ix_tx h rfl, c, _, rfl, rfl, _, rfl, ?_⟩
        rw [in_nsigns]
        have hbl := (List.getElem?_eq_some_iff.mp h).1
        cases hn : isN c with
        | true =>
          refine iteT ?_
          refine ⟨fun σ' H' => H' = H1 ∧ σ' = [some (.str (Tx t)), some (.int ((b + 1 : Nat) : Int))], fun σ' H' ⟨h1, h2⟩ => ⟨t.length - (b + 1), by omega, h1, b + 1, rfl, h2, by rw [← rEnd_yes h hn]; exact hb⟩, ?_⟩
          refine ⟨_, rfl, _, _, rfl, rfl, ?_⟩
          exact ⟨rfl, rfl⟩
        | false =>
          refine iteF ?_
          exact ⟨rfl, by rw [← hb, rEnd_no (fun d z => by rw [h] at z; cases z; exact hn)]⟩
    · rintro σ H1 ⟨rfl, rfl⟩
      exact ⟨_, rfl, q⟩
abbrev sIsW : Stmt := topS 23
theorem scIsW : FnScope ["line", "at", "word"] ["line", "at", "word"] (defScope sIsW) := ⟨rfl, rfl, rfl, by decide +kernel, rfl, by decide +kernel, by decide +kernel⟩
theorem ok_isw {f : Addr} {fd : FuncData} (F : Fun K "is_word" "is_word" sIsW f fd) (G_run_end : Df P w K mg base "run_end" 1 ["line", "at"] spRunE) : FnOk P w K mg base CX0 2 f fd ["line", "at", "word"] spIsW := by
  refine F.ok scIsW (fun vs H Q E h => ?_) (fun cdv A outer s H vs Q E hr h => ?_)
  · obtain ⟨t, w, a, rfl, _⟩ := h
    rfl
  · obtain ⟨t, w, a, rfl, hl, q⟩ := h
    refine ⟨_, (pss_one (ps_ret (pe_cmpR op_eq (pe_slice sl_str (pv 0) (po_some (pv 1)) (po_some (pe_call G_run_end.ok (hr.mono (by decide)) rfl G_run_end.m G_run_end.kp G_run_end.b .nil pass0 (pa_cons (pv 0) (pa_cons (pv 1) pa_nil))))) (pv 2) (nomark _)))), ?_⟩
    refine ⟨_, rfl, _, rfl, _, rfl, _, rfl, _, rfl, t, a, rfl, hl, _, rfl, ⟨Tx t, rfl, big_line hl, _, rfl, rfl, ?_⟩⟩
    rw [tx_cut t (m := a) (n := rEnd t a) rfl rfl, tx_eq]
    exact q
abbrev sNSp : Stmt := topS 25
theorem scNSp : FnScope ["line", "at"] ["line", "at"] (defScope sNSp) := ⟨rfl, rfl, rfl, by decide +kernel, rfl, by decide +kernel, by decide +kernel⟩
theorem ok_nsp {f : Addr} {fd : FuncData} (F : Fun K "need_space" "need_space" sNSp f fd) (N_BadText : Ex P w K mg base "BadText" CT ["column"]) (G_behind_spaces : Df P w K mg base "behind_spaces" 1 ["text", "at"] spBeh) : FnOk P w K mg base (L2N.CX P w) 3 f fd ["line", "at"] (spNSp CT) := by
  refine okN F scNSp (fun vs H Q E h => ?_) (fun cdv A outer s H vs Q E hr h => ?_)
  · obtain ⟨t, a, rfl, _⟩ := h
    rfl
  · obtain ⟨t, a, rfl, hl, q⟩ := h
    refine ⟨_, (pss_cons (ps_if (pt_cmpR op_ne (pe_slice sl_str (pv 0) (po_some (pv 1)) (po_some (pe_op op_add (pv 1) pe_int))) pe_str (nomark _))
    (pss_one (L2N.ps_raise rfl (L2N.takes_of rfl rfl rfl rfl) (pmk_oexN N_BadText.ox N_BadText.iC N_BadText.tI N_BadText.ok (hr.mono (by decide)) N_BadText.b pass0 (by rfl) N_BadText.m (pa_cons (pe_op op_add (pv 1) pe_int) pa_nil))))
    pss_nil)
  (pss_one (ps_ret (pe_call G_behind_spaces.ok (hr.mono (by decide)) rfl G_behind_spaces.m G_behind_spaces.kp G_behind_spaces.b .nil pass0 (pa_cons (pv 0) (pa_cons (pv 1) pa_nil)))))), ?_⟩
    refine ⟨_, rfl, _, rfl, _, rfl, _, rfl, _, _, rfl, rfl, _, rfl, ⟨Tx t, rfl, big_line hl, rfl, _, rfl, ?_⟩⟩
    rw [tx_sign t (m := a) rfl rfl, lit_sp, sign_eq]
    unfold pSpace at q
    by_cases h : t[a]? = some 32
    · rw [if_pos h] at q
      rw [decide_eq_true h]
      refine iteF ?_
      exact ⟨_, rfl, _, rfl, t, a, rfl, hl, q⟩
    · rw [if_neg h] at q
      rw [decide_eq_false h]
      refine iteT ?_
      refine ⟨_, rfl, _, _, rfl, rfl, (by show 1 ≤ 1000; decide), ?_⟩
      exact raise_end rfl fun dd H' s2 n e2 => q dd H' s2 n e2
abbrev sNSg : Stmt := topS 26
theorem scNSg : FnScope ["line", "at", "sign"] ["line", "at", "sign"] (defScope sNSg) := ⟨rfl, rfl, rfl, by decide +kernel, rfl, by decide +kernel, by decide +kernel⟩
theorem ok_nsg {f : Addr} {fd : FuncData} (F : Fun K "need_sign" "need_sign" sNSg f fd) (N_BadText : Ex P w K mg base "BadText" CT ["column"]) (G_behind_spaces : Df P w K mg base "behind_spaces" 1 ["text", "at"] spBeh) : FnOk P w K mg base (L2N.CX P w) 3 f fd ["line", "at", "sign"] (spNSg CT) := by
  refine okN F scNSg (fun vs H Q E h => ?_) (fun cdv A outer s H vs Q E hr h => ?_)
  · obtain ⟨t, a, c, rfl, _⟩ := h
    rfl
  · obtain ⟨t, a, c, rfl, hl, q⟩ := h
    refine ⟨_, (pss_cons (ps_set (i := 1) scNSg.nd rfl (Or.inl rfl) (pe_call G_behind_spaces.ok (hr.mono (by decide)) rfl G_behind_spaces.m G_behind_spaces.kp G_behind_spaces.b .nil pass0 (pa_cons (pv 0) (pa_cons (pv 1) pa_nil))))
  (pss_cons (ps_if (pt_cmpR op_ne (pe_slice sl_str (pv 0) (po_some (pv 1)) (po_some (pe_op op_add (pv 1) pe_int))) (pv 2) (nomark _))
    (pss_one (L2N.ps_raise rfl (L2N.takes_of rfl rfl rfl rfl) (pmk_oexN N_BadText.ox N_BadText.iC N_BadText.tI N_BadText.ok (hr.mono (by decide)) N_BadText.b pass0 (by rfl) N_BadText.m (pa_cons (pe_op op_add (pv 1) pe_int) pa_nil))))
    pss_nil)
  (pss_one (ps_ret (pe_op op_add (pv 1) pe_int))))), ?_⟩
    refine ⟨_, rfl, _, rfl, t, a, rfl, hl, ?_⟩
    refine ⟨_, rfl, _, rfl, _, rfl, _, rfl, _, _, rfl, rfl, _, rfl, ⟨Tx t, rfl, big_line hl, _, rfl, rfl, _, rfl, ?_⟩⟩
    rw [tx_sign t (m := beh t a) rfl rfl, sign_eq]
    unfold pSign at q
    by_cases h : t[beh t a]? = some c
    · rw [if_pos h] at q
      rw [decide_eq_true h]
      refine iteF ?_
      exact ⟨_, rfl, _, _, rfl, rfl, q⟩
    · rw [if_neg h] at q
      rw [decide_eq_false h]
      refine iteT ?_
      refine ⟨_, rfl, _, _, rfl, rfl, (by show 1 ≤ 1000; decide), ?_⟩
      exact raise_end rfl fun dd H' s2 n e2 => q dd H' s2 n e2
/-- one of these texts -/
theorem inV_tx (x : List Nat) : ∀ br : List (List Nat), inV (V.str (Tx x)) (br.map fun w => V.str (Tx w)) = decide (x ∈ br)
  | [] => by rfl
  | w :: br => by
    have h := inV_tx x br
    show (eqV (V.str (Tx w)) (V.str (Tx x)) || inV (V.str (Tx x)) (br.map fun w => V.str (Tx w))) = _
    rw [h]
    have e : eqV (V.str (Tx w)) (V.str (Tx x)) = decide (x = w) := by
      show decide (Tx w = Tx x) = _
      exact decide_eq_decide.mpr ⟨fun z => (tx_inj z).symm, fun z => by rw [z]⟩
    rw [e, ← Bool.decide_or]
    exact decide_eq_decide.mpr (by simp)
theorem flat_tx (br : List (List Nat)) : (br.map fun w => V.str (Tx w)).all flatV = true := by
  rw [List.all_eq_true]
  intro x hx
  obtain ⟨w, _, rfl⟩ := List.mem_map.mp hx
  rfl
abbrev sRName : Stmt := topS 24
theorem scRName : FnScope ["line", "at", "barred", "end"] ["line", "at", "barred"] (defScope sRName) := ⟨rfl, rfl, rfl, by decide +kernel, rfl, by decide +kernel, by decide +kernel⟩
theorem ok_rname {f : Addr} {fd : FuncData} (F : Fun K "read_name" "read_name" sRName f fd) {u u8 : Tok} (m_LETTERS : mg "LETTERS" = some (.str sLETTERS u)) (m_MOST_SIGNS : mg "MOST_SIGNS" = some (.int 8 u8)) (N_BadText : Ex P w K mg base "BadText" CT ["column"]) (G_run_end : Df P w K mg base "run_end" 1 ["line", "at"] spRunE) : FnOk P w K mg base (L2N.CX P w) 3 f fd ["line", "at", "barred"] (spRName K CT) := by
  refine okN F scRName (fun vs H Q E h => ?_) (fun cdv A outer s H vs Q E hr h => ?_)
  · obtain ⟨t, a, b, br, rfl, _⟩ := h
    rfl
  · obtain ⟨t, a, b, br, rfl, hl, hb, hbr, q⟩ := h
    refine ⟨_, (pss_cons (ps_if (PW.pt (pw_or (pt_cmpR op_eq (pe_slice sl_str (pv 0) (po_some (pv 1)) (po_some (pe_op op_add (pv 1) pe_int))) pe_str (nomark _)) (pw_or1 (pt_cmpR op_notIn_sign (pe_ix ix_str (pv 0) (pv 1) (fun _ _ => rfl)) (pe_glob (v := V.str sLETTERS) rfl m_LETTERS ⟨_, rfl⟩) (by rfl)))))
    (pss_one (L2N.ps_raise rfl (L2N.takes_of rfl rfl rfl rfl) (pmk_oexN N_BadText.ox N_BadText.iC N_BadText.tI N_BadText.ok (hr.mono (by decide)) N_BadText.b pass0 (by rfl) N_BadText.m (pa_cons (pe_op op_add (pv 1) pe_int) pa_nil))))
    pss_nil)
  (pss_cons (ps_set (i := 3) scRName.nd rfl (Or.inl rfl) (pe_call G_run_end.ok (hr.mono (by decide)) rfl G_run_end.m G_run_end.kp G_run_end.b .nil pass0 (pa_cons (pv 0) (pa_cons (pv 1) pa_nil))))
  (pss_cons (ps_if (pt_cmpR op_gt (pe_op op_sub (pv 3) (pv 1)) (pe_glob (v := V.int 8) rfl m_MOST_SIGNS ⟨_, rfl⟩) (nomark _))
    (pss_one (L2N.ps_raise rfl (L2N.takes_of rfl rfl rfl rfl) (pmk_oexN N_BadText.ox N_BadText.iC N_BadText.tI N_BadText.ok (hr.mono (by decide)) N_BadText.b pass0 (by rfl) N_BadText.m (pa_cons (pe_op op_add (pe_op op_add (pv 1) (pe_glob (v := V.int 8) rfl m_MOST_SIGNS ⟨_, rfl⟩)) pe_int) pa_nil))))
    pss_nil)
  (pss_cons (ps_if (pt_cmpR op_in_seq (pe_slice sl_str (pv 0) (po_some (pv 1)) (po_some (pv 3))) (pv 2) (by rfl))
    (pss_one (L2N.ps_raise rfl (L2N.takes_of rfl rfl rfl rfl) (pmk_oexN N_BadText.ox N_BadText.iC N_BadText.tI N_BadText.ok (hr.mono (by decide)) N_BadText.b pass0 (by rfl) N_BadText.m (pa_cons (pe_ifExp (pt_cmpR op_eq (pe_op op_sub (pv 3) (pv 1)) (pe_glob (v := V.int 8) rfl m_MOST_SIGNS ⟨_, rfl⟩) (nomark _)) (pv 3) (pe_op op_add (pv 3) pe_int)) pa_nil))))
    pss_nil)
  (pss_one (ps_ret (pe_tup (pa_cons (pe_slice sl_str (pv 0) (po_some (pv 1)) (po_some (pv 3))) (pa_cons (pv 3) pa_nil))))))))), ?_⟩
    refine ⟨_, rfl, _, rfl, _, rfl, _, rfl, _, _, rfl, rfl, _, rfl, ⟨Tx t, rfl, big_line hl, rfl, _, rfl, ?_⟩⟩
    rw [tx_sign t (m := a) rfl rfl, lit_empty, sign_none]
    unfold pName at q
    have bad : RaisesT CT H (a + 1) E → RaisesT CT H (a + 1) E := id
    cases h : t[a]? with
    | none =>
      rw [h] at q
      rw [decide_eq_true rfl]
      refine iteT ?_
      refine ⟨_, rfl, _, _, rfl, rfl, (by show 1 ≤ 1000; decide), ?_⟩
      exact raise_end rfl fun dd H' s2 n e2 => q dd H' s2 n e2
    | some c =>
      rw [h] at q
      have q : Tells CT H (if isL c = true then (if 8 < rEnd t a - a then Except.error (a + 9) else if cutT t a (rEnd t a) ∈ br then .error (if rEnd t a - a = 8 then rEnd t a else rEnd t a + 1) else .ok (cutT t a (rEnd t a), rEnd t a)) else .error (a + 1)) E fun r => ∀ (p : Addr) (H' : Hp), Same H H' → H' p = some (.tup [.str (Tx r.1), .int (r.2 : Int)]) → Q (.ref p) H' := q
      rw [decide_eq_false (fun z => nomatch z)]
      refine iteF ?_
      refine ⟨_, rfl, _, rfl, Tx t, _, c, rfl, rfl, big_line hl, ix_tx h rfl, c, _, rfl, rfl, _, rfl, ?_⟩
      rw [in_letters]
      cases hn : isL c with
      | false =>
        rw [if_neg (by rw [hn]; decide)] at q
        refine iteT ?_
        refine ⟨_, rfl, _, _, rfl, rfl, (by show 1 ≤ 1000; decide), ?_⟩
        exact raise_end rfl fun dd H' s2 n e2 => q dd H' s2 n e2
      | true =>
        rw [if_pos hn] at q
        refine iteF ?_
        refine ⟨_, rfl, _, rfl, t, a, rfl, hl, ?_⟩
        have el := rEnd_le t a
        refine ⟨_, rfl, _, rfl, _, _, rfl, rfl, _, _, rfl, rfl, _, rfl, ?_⟩
        by_cases h8 : 8 < rEnd t a - a
        · rw [if_pos h8] at q
          rw [decide_eq_true (by omega)]
          refine iteT ?_
          refine ⟨_, rfl, _, _, rfl, rfl, _, _, rfl, rfl, (by show 1 ≤ 1000; decide), ?_⟩
          exact raise_end rfl fun dd H' s2 n e2 => q dd H' s2 n (by rw [e2]; congr 4)
        · rw [if_neg h8] at q
          rw [decide_eq_false (by omega)]
          refine iteF ?_
          refine ⟨_, rfl, _, rfl, _, rfl, _, rfl, _, rfl, ⟨Tx t, rfl, big_line hl, _, rfl, b, _, rfl, .inr hb, rfl, flat_tx br, ?_⟩⟩
          rw [tx_cut t (m := a) (n := rEnd t a) rfl rfl]
          rw [inV_tx]
          by_cases hm : cutT t a (rEnd t a) ∈ br
          · rw [if_pos hm] at q
            rw [show (t.drop a).take (rEnd t a - a) = cutT t a (rEnd t a) from rfl, decide_eq_true hm]
            refine ⟨true, rfl, ?_⟩
            refine iteT ?_
            refine ⟨_, rfl, _, rfl, _, _, rfl, rfl, rfl, _, rfl, ?_⟩
            by_cases he : rEnd t a - a = 8
            · rw [if_pos he] at q
              rw [decide_eq_true (show V.int (((rEnd t a : Nat) : Int) - (a : Int)) = V.int 8 from by rw [show ((rEnd t a : Nat) : Int) - (a : Int) = 8 by omega])]
              refine iteT ?_
              refine ⟨_, rfl, (by show 1 ≤ 1000; decide), ?_⟩
              exact raise_end rfl fun dd H' s2 n e2 => q dd H' s2 n e2
            · rw [if_neg he] at q
              rw [decide_eq_false (fun z => by have := V.int.inj z; omega)]
              refine iteF ?_
              refine ⟨_, rfl, _, _, rfl, rfl, (by show 1 ≤ 1000; decide), ?_⟩
              exact raise_end rfl fun dd H' s2 n e2 => q dd H' s2 n e2
          · rw [if_neg hm] at q
            rw [show (t.drop a).take (rEnd t a - a) = cutT t a (rEnd t a) from rfl, decide_eq_false hm]
            refine ⟨false, rfl, ?_⟩
            refine iteF ?_
            refine ⟨_, rfl, _, rfl, _, rfl, _, rfl, _, rfl, ⟨Tx t, rfl, big_line hl, _, rfl, (by show 2 ≤ sizeLine; decide), fun p np => ?_⟩⟩
            rw [tx_cut t (m := a) (n := rEnd t a) rfl rfl]
            exact q p _ (same_upd np) upd_same
abbrev sRDg : Stmt := topS 27
theorem scRDg : FnScope ["line", "at", "most", "end"] ["line", "at", "most"] (defScope sRDg) := ⟨rfl, rfl, rfl, by decide +kernel, rfl, by decide +kernel, by decide +kernel⟩
theorem ok_rdg {f : Addr} {fd : FuncData} (F : Fun K "read_digits" "read_digits" sRDg f fd) (T : Bk mg) (N_BadText : Ex P w K mg base "BadText" CT ["column"]) (G_is_digit : Df P w K mg base "is_digit" 1 ["text", "at"] spIsD) : FnOk P w K mg base (L2N.CX P w) 3 f fd ["line", "at", "most"] (spRDg CT) := by
  refine okN F scRDg (fun vs H Q E h => ?_) (fun cdv A outer s H vs Q E hr h => ?_)
  · obtain ⟨t, a, most, rfl, _⟩ := h
    rfl
  · obtain ⟨t, a, most, rfl, hl, m1, m6, q⟩ := h
    refine ⟨_, (pss_cons (ps_if (pt_not (pt_val (pe_call G_is_digit.ok (hr.mono (by decide)) rfl G_is_digit.m G_is_digit.kp G_is_digit.b .nil pass0 (pa_cons (pv 0) (pa_cons (pv 1) pa_nil)))))
    (pss_one (L2N.ps_raise rfl (L2N.takes_of rfl rfl rfl rfl) (pmk_oexN N_BadText.ox N_BadText.iC N_BadText.tI N_BadText.ok (hr.mono (by decide)) N_BadText.b pass0 (by rfl) N_BadText.m (pa_cons (pe_op op_add (pv 1) pe_int) pa_nil))))
    pss_nil)
  (pss_cons (ps_set (i := 3) scRDg.nd rfl (Or.inl rfl) (pe_op op_add (pv 1) pe_int))
  (C8.pss_cut (ps_while (passes_of rfl) (PW.pt (pw_and (pt_cmpR op_ne (pe_ix ix_str (pv 0) (pv 1) (fun _ _ => rfl)) pe_str (nomark _)) (pw_and (pt_val (pe_call G_is_digit.ok (hr.mono (by decide)) rfl G_is_digit.m G_is_digit.kp G_is_digit.b .nil pass0 (pa_cons (pv 0) (pa_cons (pv 3) pa_nil)))) (pw_and1 (pt_cmpR op_lt (pe_op op_sub (pv 3) (pv 1)) (pv 2) (nomark _))))))
    (pss_one (ps_set (i := 3) scRDg.nd rfl (Or.inl rfl) (pe_op op_add (pv 3) pe_int))))
  (pss_cons (ps_if (pt_val (pe_call G_is_digit.ok (hr.mono (by decide)) rfl G_is_digit.m G_is_digit.kp G_is_digit.b .nil pass0 (pa_cons (pv 0) (pa_cons (pv 3) pa_nil))))
    (pss_one (L2N.ps_raise rfl (L2N.takes_of rfl rfl rfl rfl) (pmk_oexN N_BadText.ox N_BadText.iC N_BadText.tI N_BadText.ok (hr.mono (by decide)) N_BadText.b pass0 (by rfl) N_BadText.m (pa_cons (pe_op op_add (pv 3) pe_int) pa_nil))))
    pss_nil)
  (pss_one (ps_ret (pe_tup (pa_cons (pe_callTy call_int_str (by rfl) T.int (by decide +kernel) (pa_cons (pe_slice sl_str (pv 0) (po_some (pv 1)) (po_some (pv 3))) pa_nil)) (pa_cons (pv 3) pa_nil))))))))), ?_⟩
    refine ⟨_, rfl, _, rfl, t, a, rfl, hl, _, rfl, ?_⟩
    unfold pDigits at q
    cases hd : dgA t a with
    | false =>
      rw [if_neg (by rw [hd]; decide)] at q
      refine iteT ?_
      refine ⟨_, rfl, _, _, rfl, rfl, (by show 1 ≤ 1000; decide), ?_⟩
      exact raise_end rfl fun dd H' s2 n e2 => q dd H' s2 n e2
    | true =>
      rw [if_pos hd] at q
      refine iteF ?_
      obtain ⟨c0, h0, d0⟩ := dgA_some hd
      have hdn : digN t a most = if t[a]? = some 48 then 1 else min most (runD (t.drop a)) := rfl
      generalize digN t a most = J at q hdn
      refine ⟨_, rfl, _, _, rfl, rfl, ?_⟩
      refine ⟨fun σ1 H1 => H1 = H ∧ σ1 = [some (.str (Tx t)), some (.int (a : Int)), some (.int (most : Int)), some (.int ((a + J : Nat) : Int))] ∧ (∀ i, i < J → dgA t (a + i) = true) ∧ 1 ≤ J ∧ J ≤ 600, ?_, ?_⟩
      · refine ⟨fun m σ H1 => H1 = H ∧ ∃ j : Nat, m = most + 1 - j ∧ σ = [some (.str (Tx t)), some (.int (a : Int)), some (.int (most : Int)), some (.int ((a + j : Nat) : Int))] ∧ 1 ≤ j ∧ j ≤ most ∧ (∀ i, i < j → dgA t (a + i) = true) ∧ (t[a]? = some 48 → j = 1),
          ⟨_, rfl, 1, rfl, rfl, by decide, m1, fun i hi => by rw [show i = 0 by omega]; exact hd, fun _ => rfl⟩, ?_⟩
        rintro m σ H1 ⟨rfl, j, rfl, rfl, j1, jm, dg, zz⟩
        have stop : J = j → H1 = H1 ∧ [some (V.str (Tx t)), some (.int (a : Int)), some (.int (most : Int)), some (.int ((a + j : Nat) : Int))] = [some (.str (Tx t)), some (.int (a : Int)), some (.int (most : Int)), some (.int ((a + J : Nat) : Int))] ∧ (∀ i, i < J → dgA t (a + i) = true) ∧ 1 ≤ J ∧ J ≤ 600 := fun e => by
          subst e
          exact ⟨rfl, rfl, dg, j1, by omega⟩
        have ru := runD_of j dg
        refine ⟨_, rfl, _, rfl, ⟨Tx t, _, c0, rfl, rfl, big_line hl, ix_tx h0 rfl, rfl, _, rfl, ?_⟩⟩
        rw [lit_zero, show (⟨#[c0]⟩ : Str) = Tx [c0] from rfl, tx_eq]
        by_cases hz : c0 = 48
        · subst hz
          rw [if_pos h0] at hdn
          rw [decide_eq_true rfl]
          refine iteF ?_
          refine iteF ?_
          exact stop (by rw [hdn, zz h0])
        · have hz' : t[a]? ≠ some 48 := fun z => by rw [h0] at z; exact hz (Option.some.inj z)
          rw [if_neg hz'] at hdn
          rw [decide_eq_false (fun z => hz (List.cons.inj z).1)]
          refine iteT ?_
          refine ⟨_, rfl, _, rfl, t, a + j, rfl, hl, _, rfl, ?_⟩
          cases hdj : dgA t (a + j) with
          | false =>
            refine iteF ?_
            refine iteF ?_
            refine stop ?_
            rw [runD_no hdj] at ru
            omega
          | true =>
            refine iteT ?_
            refine ⟨_, rfl, _, rfl, _, _, rfl, rfl, _, rfl, _, _, rfl, rfl, _, rfl, ?_⟩
            obtain ⟨c1, h1, d1⟩ := dgA_some hdj
            have ru1 := runD_yes h1 d1
            by_cases h40 : j = most
            · rw [decide_eq_false (by omega)]
              refine iteF ?_
              exact stop (by omega)
            · rw [decide_eq_true (by omega)]
              refine iteT ?_
              refine ⟨fun σ' H' => H' = H1 ∧ σ' = [some (.str (Tx t)), some (.int (a : Int)), some (.int (most : Int)), some (.int ((a + (j + 1) : Nat) : Int))], fun σ' H' ⟨z1, z2⟩ => ⟨most + 1 - (j + 1), by omega, z1, j + 1, rfl, z2, by omega, by omega, fun i hi => ?_, fun z => absurd z hz'⟩, ?_⟩
              · by_cases hij : i = j
                · subst hij
                  exact hdj
                · exact dg i (by omega)
              · exact ⟨_, rfl, _, _, rfl, rfl, rfl, rfl⟩
      · rintro σ1 H1 ⟨rfl, rfl, dg, J1, J6⟩
        refine ⟨_, rfl, _, rfl, t, a + J, rfl, hl, _, rfl, ?_⟩
        cases hdj : dgA t (a + J) with
        | true =>
          rw [if_pos hdj] at q
          refine iteT ?_
          refine ⟨_, rfl, _, _, rfl, rfl, (by show 1 ≤ 1000; decide), ?_⟩
          exact raise_end rfl fun dd H' s2 n e2 => q dd H' s2 n e2
        | false =>
          rw [if_neg (by rw [hdj]; decide)] at q
          refine iteF ?_
          have dg' : ∀ i, i < J → ∃ c, t[a + i]? = some c ∧ isD c = true := fun i hi => dgA_some (dg i hi)
          have sl := seg_len dg'
          refine ⟨_, rfl, _, rfl, _, rfl, _, rfl, _, rfl, ⟨Tx t, rfl, big_line hl, ?_⟩⟩
          rw [tx_cut t (m := a) (n := a + J) rfl rfl, show a + J - a = J by omega]
          refine ⟨Tx (seg t a J), _, rfl, int_tx (seg_dig dg') (fun z => by rw [z] at sl; simp at sl; omega) (by omega), by rw [tx_len]; omega, ?_⟩
          refine ⟨_, rfl, (by show 2 ≤ sizeLine; decide), fun p np => ?_⟩
          exact q p _ (same_upd np) upd_same
abbrev sRNum : Stmt := topS 28
theorem scRNum : FnScope ["line", "at", "number", "end"] ["line", "at"] (defScope sRNum) := ⟨rfl, rfl, rfl, by decide +kernel, rfl, by decide +kernel, by decide +kernel⟩
theorem ok_rnum {f : Addr} {fd : FuncData} (F : Fun K "read_number" "read_number" sRNum f fd) {u : Tok} (m_MOST_DIGITS : mg "MOST_DIGITS" = some (.int 30 u)) (G_read_digits : Dn P w K mg base "read_digits" 3 ["line", "at", "most"] (spRDg CT)) : FnOk P w K mg base (L2N.CX P w) 4 f fd ["line", "at"] (spRNum CT) := by
  refine okN F scRNum (fun vs H Q E h => ?_) (fun cdv A outer s H vs Q E hr h => ?_)
  · obtain ⟨t, a, rfl, _⟩ := h
    rfl
  · obtain ⟨t, a, rfl, hl, q⟩ := h
    refine ⟨_, (pss_cons (ps_if (pt_cmpR op_eq (pe_slice sl_str (pv 0) (po_some (pv 1)) (po_some (pe_op op_add (pv 1) pe_int))) pe_str (nomark _))
    (pss_cons (ps_asg (pe_call G_read_digits.ok (hr.mono (by decide)) rfl G_read_digits.m G_read_digits.kp G_read_digits.b .nil (E := E) (L2N.passes_call (L2N.takes_of rfl rfl rfl rfl) (fun _ _ _ _ h => h)) (pa_cons (pv 0) (pa_cons (pe_op op_add (pv 1) pe_int) (pa_cons (pe_glob (v := V.int 30) rfl m_MOST_DIGITS ⟨_, rfl⟩) pa_nil)))) (pg_tup (by rfl) (pgs_cons (pg_name (i := 2) scRNum.nd rfl (Or.inl rfl)) (pgs_cons (pg_name (i := 3) scRNum.nd rfl (Or.inl rfl)) pgs_nil))))
    (pss_one (ps_ret (pe_tup (pa_cons (pe_un un_neg (pv 2)) (pa_cons (pv 3) pa_nil))))))
    pss_nil)
  (pss_one (ps_ret (pe_call G_read_digits.ok (hr.mono (by decide)) rfl G_read_digits.m G_read_digits.kp G_read_digits.b .nil (E := E) (L2N.passes_call (L2N.takes_of rfl rfl rfl rfl) (fun _ _ _ _ h => h)) (pa_cons (pv 0) (pa_cons (pv 1) (pa_cons (pe_glob (v := V.int 30) rfl m_MOST_DIGITS ⟨_, rfl⟩) pa_nil))))))), ?_⟩
    refine ⟨_, rfl, _, rfl, _, rfl, _, rfl, _, _, rfl, rfl, _, rfl, ⟨Tx t, rfl, big_line hl, rfl, _, rfl, ?_⟩⟩
    rw [tx_sign t (m := a) rfl rfl, lit_minus, sign_eq]
    unfold pNumber at q
    by_cases h : t[a]? = some 45
    · rw [if_pos h] at q
      rw [decide_eq_true h]
      refine iteT ?_
      refine ⟨_, rfl, _, rfl, _, _, rfl, rfl, t, a + 1, 30, rfl, hl, by decide, by decide, ?_⟩
      cases hp : pDigits t (a + 1) 30 with
      | error c => rw [hp] at q; exact q
      | ok r =>
        rw [hp] at q
        intro p H1 s1 e1
        refine ⟨p, _, rfl, SqT.of e1, rfl, _, _, rfl, _, _, rfl, rfl, ?_⟩
        refine ⟨_, rfl, _, rfl, _, rfl, (by show 2 ≤ sizeLine; decide), fun p2 np2 => ?_⟩
        exact q p2 _ (s1.trans (same_upd np2)) upd_same
    · rw [if_neg h] at q
      rw [decide_eq_false h]
      refine iteF ?_
      refine ⟨_, rfl, _, rfl, t, a, 30, rfl, hl, by decide, by decide, ?_⟩
      cases hp : pDigits t a 30 with
      | error c => rw [hp] at q; exact q
      | ok r => rw [hp] at q; exact q
abbrev sRCnt : Stmt := topS 29
theorem scRCnt : FnScope ["line", "at"] ["line", "at"] (defScope sRCnt) := ⟨rfl, rfl, rfl, by decide +kernel, rfl, by decide +kernel, by decide +kernel⟩
theorem ok_rcnt {f : Addr} {fd : FuncData} (F : Fun K "read_count" "read_count" sRCnt f fd) (T : Bk mg) {u : Tok} (m_MOST_COUNT : mg "MOST_COUNT" = some (.int 60 u)) (N_BadText : Ex P w K mg base "BadText" CT ["column"]) (G_is_digit : Df P w K mg base "is_digit" 1 ["text", "at"] spIsD) (G_read_digits : Dn P w K mg base "read_digits" 3 ["line", "at", "most"] (spRDg CT)) : FnOk P w K mg base (L2N.CX P w) 4 f fd ["line", "at"] (spRCnt CT) := by
  refine okN F scRCnt (fun vs H Q E h => ?_) (fun cdv A outer s H vs Q E hr h => ?_)
  · obtain ⟨t, a, rfl, _⟩ := h
    rfl
  · obtain ⟨t, a, rfl, hl, q⟩ := h
    refine ⟨_, (pss_cons (ps_if (PW.pt (pw_and (pt_val (pe_call G_is_digit.ok (hr.mono (by decide)) rfl G_is_digit.m G_is_digit.kp G_is_digit.b .nil pass0 (pa_cons (pv 0) (pa_cons (pv 1) pa_nil)))) (pw_and (pt_cmpR op_ne (pe_ix ix_str (pv 0) (pv 1) (fun _ _ => rfl)) pe_str (nomark _)) (pw_and (pt_val (pe_call G_is_digit.ok (hr.mono (by decide)) rfl G_is_digit.m G_is_digit.kp G_is_digit.b .nil pass0 (pa_cons (pv 0) (pa_cons (pe_op op_add (pv 1) pe_int) pa_nil)))) (pw_and1 (pt_cmpR op_gt (pe_callTy call_int_str (by rfl) T.int (by decide +kernel) (pa_cons (pe_slice sl_str (pv 0) (po_some (pv 1)) (po_some (pe_op op_add (pv 1) pe_int))) pa_nil)) (pe_glob (v := V.int 60) rfl m_MOST_COUNT ⟨_, rfl⟩) (nomark _)))))))
    (pss_one (L2N.ps_raise rfl (L2N.takes_of rfl rfl rfl rfl) (pmk_oexN N_BadText.ox N_BadText.iC N_BadText.tI N_BadText.ok (hr.mono (by decide)) N_BadText.b pass0 (by rfl) N_BadText.m (pa_cons (pe_op op_add (pv 1) pe_int) pa_nil))))
    pss_nil)
  (pss_one (ps_ret (pe_call G_read_digits.ok (hr.mono (by decide)) rfl G_read_digits.m G_read_digits.kp G_read_digits.b .nil (E := E) (L2N.passes_call (L2N.takes_of rfl rfl rfl rfl) (fun _ _ _ _ h => h)) (pa_cons (pv 0) (pa_cons (pv 1) (pa_cons pe_int pa_nil))))))), ?_⟩
    unfold pCount at q
    have no : ¬ (dgA t a = true ∧ t[a]? ≠ some 48 ∧ dgA t (a + 1) = true ∧ 60 < PySem.NumText.digitsVal (seg t a 2)) → Tells CT H (pDigits t a 2) E (fun r => ∀ (p : Addr) (H' : Hp), Same H H' → H' p = some (.tup [.int (r.1 : Int), .int (r.2 : Int)]) → Q (.ref p) H') := fun n => by rw [if_neg n] at q; exact q
    refine ⟨_, rfl, _, rfl, t, a, rfl, hl, _, rfl, ?_⟩
    cases hd : dgA t a with
    | false =>
      refine iteF ?_
      refine iteF ?_
      exact ⟨_, rfl, _, rfl, t, a, 2, rfl, hl, by decide, by decide, no (fun z => by rw [hd] at z; cases z.1)⟩
    | true =>
      refine iteT ?_
      obtain ⟨c0, h0, d0⟩ := dgA_some hd
      refine ⟨_, rfl, _, rfl, ⟨Tx t, _, c0, rfl, rfl, big_line hl, ix_tx h0 rfl, rfl, _, rfl, ?_⟩⟩
      rw [lit_zero, show (⟨#[c0]⟩ : Str) = Tx [c0] from rfl, tx_eq]
      by_cases hz : c0 = 48
      · subst hz
        rw [decide_eq_true rfl]
        refine iteF ?_
        refine iteF ?_
        exact ⟨_, rfl, _, rfl, t, a, 2, rfl, hl, by decide, by decide, no (fun z => z.2.1 h0)⟩
      · have hz' : t[a]? ≠ some 48 := fun z => by rw [h0] at z; exact hz (Option.some.inj z)
        rw [decide_eq_false (fun z => hz (List.cons.inj z).1)]
        refine iteT ?_
        refine ⟨_, rfl, _, rfl, _, _, rfl, rfl, t, a + 1, rfl, hl, _, rfl, ?_⟩
        cases hd1 : dgA t (a + 1) with
        | false =>
          refine iteF ?_
          refine iteF ?_
          exact ⟨_, rfl, _, rfl, t, a, 2, rfl, hl, by decide, by decide, no (fun z => by rw [hd1] at z; cases z.2.2.1)⟩
        | true =>
          refine iteT ?_
          have dg' : ∀ i, i < 2 → ∃ c, t[a + i]? = some c ∧ isD c = true := fun i hi => dgA_some (by
            match i, hi with
            | 0, _ => exact hd
            | 1, _ => exact hd1)
          have sl := seg_len dg'
          refine ⟨_, rfl, _, rfl, _, rfl, _, rfl, _, _, rfl, rfl, _, rfl, ⟨Tx t, rfl, big_line hl, ?_⟩⟩
          rw [tx_cut t (m := a) (n := a + 2) rfl (by omega), show a + 2 - a = 2 by omega]
          refine ⟨Tx (seg t a 2), _, rfl, int_tx (seg_dig dg') (fun z => by rw [z] at sl; simp at sl) (by omega), by rw [tx_len]; omega, ?_⟩
          refine ⟨_, _, rfl, rfl, _, rfl, ?_⟩
          by_cases h60 : 60 < PySem.NumText.digitsVal (seg t a 2)
          · rw [if_pos ⟨hd, hz', hd1, h60⟩] at q
            rw [decide_eq_true (by omega)]
            refine iteT ?_
            refine ⟨_, rfl, _, _, rfl, rfl, (by show 1 ≤ 1000; decide), ?_⟩
            exact raise_end rfl fun dd H' s2 n e2 => q dd H' s2 n e2
          · rw [decide_eq_false (by omega)]
            refine iteF ?_
            exact ⟨_, rfl, _, rfl, t, a, 2, rfl, hl, by decide, by decide, no (fun z => h60 z.2.2.2)⟩
end

end Vf

set_option maxRecDepth 100000
set_option maxHeartbeats 8000000
namespace Vf
open PySem PySem.Spec PyProof.Rows L2
/-! ### steps, tables, names -/
theorem hu1 {n : Nat} (h : n + 64 < cLine) : n + 1 < cLine := by omega
inductive Opd where
  | num (z : Int)
  | plc (i : Nat)
inductive Oth where
  | opd (o : Opd)
  | cnt (n : Nat)
  | non
structure Stp where
  name : List Nat
  sign : List Nat
  one : Opd
  oth : Oth
abbrev Env' := List (List Nat × Bool × Nat)
def envGet : Env' → List Nat → Option (Bool × Nat)
  | [], _ => none
  | p :: e, n => if p.1 = n then some p.2 else envGet e n
structure Pst where
  tabs : List (List Int)
  steps : List Stp
  env : Env'
def pOperand (env : Env') (t : List Nat) (a : Nat) : Ex' (Opd × Nat) :=
  if dgL t (beh t a) then
    (match pName t (beh t a) [] with
    | .error c => .error c
    | .ok r => match envGet env r.1 with
      | some (false, i) => .ok (.plc i, r.2)
      | _ => .error (beh t a + 1))
  else (match pNumber t (beh t a) with
    | .error c => .error c
    | .ok r => .ok (.num r.1, r.2))
where dgL (t : List Nat) (a : Nat) : Bool := match t[a]? with
  | some c => isL c
  | none => false
abbrev lA := pOperand.dgL
def opdV : Opd → List V
  | .num z => [.bl true, .int z]
  | .plc i => [.bl false, .int (i : Int)]
def OpdAt (H : Hp) (r : Addr) (o : Opd) : Prop := H r = some (.tup (opdV o))
def OthAt (H : Hp) (v : V) : Oth → Prop
  | .opd o => ∃ r, v = .ref r ∧ OpdAt H r o
  | .cnt n => v = .int (n : Int)
  | .non => v = .non
def StpAt (H : Hp) (r : Addr) (s : Stp) : Prop := ∃ (ra : Addr) (v : V), H r = some (.tup [.str (Tx s.name), .str (Tx s.sign), .ref ra, v]) ∧ OpdAt H ra s.one ∧ OthAt H v s.oth
def TabAt (H : Hp) (r : Addr) (ns : List Int) : Prop := H r = some (.tup (ns.map V.int))
/-- objects in a row -/
inductive All2 {α : Type} (p : Addr → α → Prop) : List Addr → List α → Prop
  | nil : All2 p [] []
  | cons {r : Addr} {x : α} {rs : List Addr} {xs : List α} : p r x → All2 p rs xs → All2 p (r :: rs) (x :: xs)
theorem All2.imp {α : Type} {p q : Addr → α → Prop} {rs : List Addr} {xs : List α} (h : All2 p rs xs) (e : ∀ r x, p r x → q r x) : All2 q rs xs := by
  induction h with
  | nil => exact .nil
  | cons h _ ih => exact .cons (e _ _ h) ih
theorem All2.len {α : Type} {p : Addr → α → Prop} {rs : List Addr} {xs : List α} (h : All2 p rs xs) : rs.length = xs.length := by
  induction h with
  | nil => rfl
  | cons h _ ih => rw [List.length_cons, List.length_cons, ih]
theorem All2.snoc {α : Type} {p : Addr → α → Prop} {rs : List Addr} {xs : List α} {r : Addr} {x : α} (h : All2 p rs xs) (hx : p r x) : All2 p (rs ++ [r]) (xs ++ [x]) := by
  induction h with
  | nil => exact .cons hx .nil
  | cons h _ ih => exact .cons h ih
theorem All2.at {α : Type} {p : Addr → α → Prop} {rs : List Addr} {xs : List α} (h : All2 p rs xs) : ∀ {i : Nat} {r : Addr}, rs[i]? = some r → ∃ x, xs[i]? = some x ∧ p r x := by
  induction h with
  | nil => intro i r z; cases z
  | @cons r0 x0 rs xs h _ ih =>
    intro i r z
    cases i with
    | zero => cases z; exact ⟨x0, rfl, h⟩
    | succ i => exact ih z
theorem All2.get {α : Type} {p : Addr → α → Prop} {rs : List Addr} {xs : List α} (h : All2 p rs xs) : ∀ {i : Nat} {x : α}, xs[i]? = some x → ∃ r, rs[i]? = some r ∧ p r x := by
  induction h with
  | nil => intro i r z; cases z
  | @cons r0 x0 rs xs h _ ih =>
    intro i r z
    cases i with
    | zero => cases z; exact ⟨r0, rfl, h⟩
    | succ i => exact ih z
def TupS (H H' : Hp) : Prop := ∀ b xs, H b = some (.tup xs) → H' b = some (.tup xs)
theorem TupS.of {H H' : Hp} (s : Same H H') : TupS H H' := fun b _ e => s b _ e
theorem OpdAt.up {H H' : Hp} {r : Addr} {o : Opd} (h : OpdAt H r o) (s : TupS H H') : OpdAt H' r o := s _ _ h
theorem OthAt.up {H H' : Hp} {v : V} {o : Oth} (h : OthAt H v o) (s : TupS H H') : OthAt H' v o := by
  cases o with
  | opd o => obtain ⟨r, e, h⟩ := h; exact ⟨r, e, h.up s⟩
  | _ => exact h
theorem StpAt.up {H H' : Hp} {r : Addr} {x : Stp} (h : StpAt H r x) (s : TupS H H') : StpAt H' r x := by
  obtain ⟨ra, v, h1, h2, h3⟩ := h
  exact ⟨ra, v, s _ _ h1, h2.up s, h3.up s⟩
inductive EnvK (H : Hp) : List (Key × V) → Env' → Prop
  | nil : EnvK H [] []
  | cons {r : Addr} {n : List Nat} {b : Bool} {i : Nat} {kvs : List (Key × V)} {env : Env'} : H r = some (.tup [.bl b, .int (i : Int)]) → EnvK H kvs env → EnvK H ((.inr (Tx n), .ref r) :: kvs) ((n, b, i) :: env)
theorem EnvK.up {H H' : Hp} {kvs : List (Key × V)} {env : Env'} (h : EnvK H kvs env) (s : TupS H H') : EnvK H' kvs env := by
  induction h with
  | nil => exact .nil
  | cons h _ ih => exact .cons (s _ _ h) ih
theorem EnvK.snoc {H : Hp} {kvs : List (Key × V)} {env : Env'} {r : Addr} {n : List Nat} {b : Bool} {i : Nat} (h : EnvK H kvs env) (e : H r = some (.tup [.bl b, .int (i : Int)])) : EnvK H (kvs ++ [(.inr (Tx n), .ref r)]) (env ++ [(n, b, i)]) := by
  induction h with
  | nil => exact .cons e .nil
  | cons h _ ih => exact .cons h ih
theorem EnvK.len {H : Hp} {kvs : List (Key × V)} {env : Env'} (h : EnvK H kvs env) : kvs.length = env.length := by
  induction h with
  | nil => rfl
  | cons h _ ih => rw [List.length_cons, List.length_cons, ih]
theorem EnvK.get {H : Hp} {kvs : List (Key × V)} {env : Env'} (h : EnvK H kvs env) (n : List Nat) : match envGet env n with
    | none => valV kvs (.inr (Tx n)) = none
    | some p => ∃ r, valV kvs (.inr (Tx n)) = some (.ref r) ∧ H r = some (.tup [.bl p.1, .int (p.2 : Int)]) := by
  induction h with
  | nil => exact valV_nil
  | @cons r m b i kvs env e _ ih =>
    unfold envGet
    by_cases hm : m = n
    · rw [if_pos hm]
      subst hm
      exact ⟨r, valV_pos rfl, e⟩
    · rw [if_neg hm, valV_neg (fun z => hm (tx_inj (Sum.inr.inj z)))]
      exact ih
structure PaC (K : PySem.W.Frag) (mg : Str → Option Value) (CA : Addr) : Prop where
  m : mg "Parsed" = some (.ref CA)
  cl : Cls K CA
  nT : NoAttr K CA "tables"
  nS : NoAttr K CA "steps"
  nP : NoAttr K CA "places"
/-- an object that reads, so far -/
structure PsAt (CA : Addr) (H : Hp) (x l1 l2 d : Addr) (st : Pst) : Prop where
  ins : ∃ dx, H x = some (.ins CA dx [("tables", .ref l1), ("steps", .ref l2), ("places", .ref d)])
  ne : l1 ≠ l2
  tabs : ∃ rs, H l1 = some (.lst (rs.map V.ref)) ∧ All2 (TabAt H) rs st.tabs
  steps : ∃ rs, H l2 = some (.lst (rs.map V.ref)) ∧ All2 (StpAt H) rs st.steps
  env : ∃ kvs, H d = some (.dK kvs) ∧ EnvK H kvs st.env
theorem PsAt.same {CA : Addr} {H H' : Hp} {x l1 l2 d : Addr} {st : Pst} (h : PsAt CA H x l1 l2 d st) (s : Same H H') : PsAt CA H' x l1 l2 d st where
  ins := h.ins.imp fun _ z => s _ _ z
  ne := h.ne
  tabs := h.tabs.imp fun _ z => ⟨s _ _ z.1, z.2.imp fun r x y => s _ _ y⟩
  steps := h.steps.imp fun _ z => ⟨s _ _ z.1, z.2.imp fun r x y => y.up (.of s)⟩
  env := h.env.imp fun _ z => ⟨s _ _ z.1, z.2.up (.of s)⟩
/-- a method of the text that may raise -/
structure Mx (P : Program) (w : World) (K : PySem.W.Frag) (mg : Str → Option Value) (base : Heap) (CP : Addr) (x : Str) (k : Nat) (ps : List Str) (sp : Sp) where
  f : Addr
  fd : FuncData
  m : Meth K CP x f
  b : Binds K fd ps []
  ok : FnOk P w K mg base (L2N.CX P w) k f fd ps sp
def spROpd (CA CT : Addr) : Sp := fun vs H Q E => ∃ (x l1 l2 d : Addr) (st : Pst) (t : List Nat) (a : Nat), vs = [.ref x, .str (Tx t), .int (a : Int)] ∧ PsAt CA H x l1 l2 d st ∧ t.length ≤ LL ∧
  Tells CT H (pOperand st.env t a) E fun r => ∀ (p ra : Addr) (H' : Hp), Same H H' → H' p = some (.tup [.ref ra, .int (r.2 : Int)]) → OpdAt H' ra r.1 → Q (.ref p) H'
section
variable {P : Program} {w : World} {K : PySem.W.Frag} {mg : Str → Option Value} {base : Heap} {CT CA CR CN : Addr}
abbrev sROpd : Stmt := inClass (topS 21) 6
theorem scROpd : FnScope ["self", "line", "at", "start", "number", "end", "name", "is_table", "place"] ["self", "line", "at"] (defScope sROpd) := ⟨rfl, rfl, rfl, by decide +kernel, rfl, by decide +kernel, by decide +kernel⟩
theorem ok_ropd {f : Addr} {fd : FuncData} (F : Fun K "read_operand" "Parsed.read_operand" sROpd f fd) {u : Tok} (m_LETTERS : mg "LETTERS" = some (.str sLETTERS u)) (PA_ : PaC K mg CA) (N_BadText : Ex P w K mg base "BadText" CT ["column"]) (G_behind_spaces : Df P w K mg base "behind_spaces" 1 ["text", "at"] spBeh)
    (G_read_number : Dn P w K mg base "read_number" 4 ["line", "at"] (spRNum CT)) (G_read_name : Dn P w K mg base "read_name" 3 ["line", "at", "barred"] (spRName K CT)) : FnOk P w K mg base (L2N.CX P w) 5 f fd ["self", "line", "at"] (spROpd CA CT) := by
  refine okN F scROpd (fun vs H Q E h => ?_) (fun cdv A outer s H vs Q E hr h => ?_)
  · obtain ⟨x, l1, l2, d, st, t, a, rfl, _⟩ := h
    rfl
  · obtain ⟨x, l1, l2, d, st, t, a, rfl, hx, hl, q⟩ := h
    refine ⟨_, (pss_cons (ps_set (i := 3) scROpd.nd rfl (Or.inl rfl) (pe_call G_behind_spaces.ok (hr.mono (by decide)) rfl G_behind_spaces.m G_behind_spaces.kp G_behind_spaces.b .nil pass0 (pa_cons (pv 1) (pa_cons (pv 2) pa_nil))))
  (pss_cons (ps_if (PW.pt (pw_or (pt_cmpR op_eq (pe_slice sl_str (pv 1) (po_some (pv 3)) (po_some (pe_op op_add (pv 3) pe_int))) pe_str (nomark _)) (pw_or1 (pt_cmpR op_notIn_sign (pe_ix ix_str (pv 1) (pv 3) (fun _ _ => rfl)) (pe_glob (v := V.str sLETTERS) rfl m_LETTERS ⟨_, rfl⟩) (by rfl)))))
    (pss_cons (ps_asg (pe_call G_read_number.ok (hr.mono (by decide)) rfl G_read_number.m G_read_number.kp G_read_number.b .nil (E := E) (L2N.passes_call (L2N.takes_of rfl rfl rfl rfl) (fun _ _ _ _ h => h)) (pa_cons (pv 1) (pa_cons (pv 3) pa_nil))) (pg_tup (by rfl) (pgs_cons (pg_name (i := 4) scROpd.nd rfl (Or.inl rfl)) (pgs_cons (pg_name (i := 5) scROpd.nd rfl (Or.inl rfl)) pgs_nil))))
    (pss_one (ps_ret (pe_tup (pa_cons (pe_tup (pa_cons pe_bl (pa_cons (pv 4) pa_nil))) (pa_cons (pv 5) pa_nil))))))
    pss_nil)
  (pss_cons (ps_asg (pe_call G_read_name.ok (hr.mono (by decide)) rfl G_read_name.m G_read_name.kp G_read_name.b .nil (E := E) (L2N.passes_call (L2N.takes_of rfl rfl rfl rfl) (fun _ _ _ _ h => h)) (pa_cons (pv 1) (pa_cons (pv 3) (pa_cons (pe_tup pa_nil) pa_nil)))) (pg_tup (by rfl) (pgs_cons (pg_name (i := 6) scROpd.nd rfl (Or.inl rfl)) (pgs_cons (pg_name (i := 5) scROpd.nd rfl (Or.inl rfl)) pgs_nil))))
  (pss_cons (ps_asg (pe_dget2 (hu1 hr.units) (pe_fld (pv 0) rfl) (pv 6) (pe_tup (pa_cons pe_bl (pa_cons pe_non pa_nil))) ⟨by rfl, by rfl, by rfl, by rfl⟩) (pg_tup (by rfl) (pgs_cons (pg_name (i := 7) scROpd.nd rfl (Or.inl rfl)) (pgs_cons (pg_name (i := 8) scROpd.nd rfl (Or.inl rfl)) pgs_nil))))
  (pss_cons (ps_if (pt_val (pv 7))
    (pss_one (L2N.ps_raise rfl (L2N.takes_of rfl rfl rfl rfl) (pmk_oexN N_BadText.ox N_BadText.iC N_BadText.tI N_BadText.ok (hr.mono (by decide)) N_BadText.b pass0 (by rfl) N_BadText.m (pa_cons (pe_op op_add (pv 3) pe_int) pa_nil))))
    pss_nil)
  (pss_one (ps_ret (pe_tup (pa_cons (pe_tup (pa_cons pe_bl (pa_cons (pv 8) pa_nil))) (pa_cons (pv 5) pa_nil)))))))))), ?_⟩
    refine ⟨_, rfl, _, rfl, t, a, rfl, hl, ?_⟩
    refine ⟨_, rfl, _, rfl, _, rfl, _, rfl, _, _, rfl, rfl, _, rfl, ⟨Tx t, rfl, big_line hl, rfl, _, rfl, ?_⟩⟩
    rw [tx_sign t (m := beh t a) rfl rfl, lit_empty, sign_none]
    unfold pOperand at q
    have num : lA t (beh t a) = false → Tells CT H (match pNumber t (beh t a) with | .error c => .error c | .ok r => .ok (Opd.num r.1, r.2)) E fun r => ∀ (p ra : Addr) (H' : Hp), Same H H' → H' p = some (.tup [.ref ra, .int (r.2 : Int)]) → OpdAt H' ra r.1 → Q (.ref p) H' := fun z => by
      rw [if_neg (by rw [show pOperand.dgL t (beh t a) = false from z]; decide)] at q
      exact q
    have isD : IsD H d := by
      obtain ⟨kvs, e, _⟩ := hx.env
      exact .inl ⟨kvs, .inl e⟩
    have fin : ∀ {nr : Ex' (Int × Nat)}, Tells CT H (match nr with | .error c => .error c | .ok r => .ok (Opd.num r.1, r.2)) E (fun r => ∀ (p ra : Addr) (H' : Hp), Same H H' → H' p = some (.tup [.ref ra, .int (r.2 : Int)]) → OpdAt H' ra r.1 → Q (.ref p) H') →
        Tells CT H nr E fun r => ∀ (p : Addr) (H' : Hp), Same H H' → H' p = some (.tup [.int r.1, .int (r.2 : Int)]) → ∀ q1, H' q1 = none → ∀ q2, upd H' q1 (.tup [.bl true, .int r.1]) q2 = none → Q (.ref q2) (upd (upd H' q1 (.tup [.bl true, .int r.1])) q2 (.tup [.ref q1, .int (r.2 : Int)])) := fun {nr} z => by
      cases nr with
      | error c => exact z
      | ok r =>
        intro p H' s _ q1 n1 q2 n2
        exact z q2 q1 _ (s.trans ((same_upd n1).trans (same_upd n2))) upd_same (same_upd n2 _ _ upd_same)
    cases h : t[beh t a]? with
    | none =>
      rw [decide_eq_true rfl]
      refine iteT ?_
      have num := fin (num (by unfold lA pOperand.dgL; rw [h]))
      refine ⟨_, rfl, _, rfl, t, beh t a, rfl, hl, ?_⟩
      cases hn : pNumber t (beh t a) with
      | error c => rw [hn] at num; exact num
      | ok r =>
        rw [hn] at num
        intro p H1 s1 e1
        refine ⟨p, _, rfl, SqT.of e1, rfl, _, _, rfl, _, _, rfl, rfl, ?_⟩
        exact ⟨_, rfl, (by show 2 ≤ sizeLine; decide), fun q1 n1 => ⟨_, rfl, (by show 2 ≤ sizeLine; decide), fun q2 n2 => num p H1 s1 e1 q1 n1 q2 n2⟩⟩
    | some c =>
      rw [decide_eq_false (fun z => nomatch z)]
      refine iteF ?_
      refine ⟨_, rfl, _, rfl, Tx t, _, c, rfl, rfl, big_line hl, ix_tx h rfl, c, _, rfl, rfl, _, rfl, ?_⟩
      rw [in_letters]
      have el : lA t (beh t a) = isL c := by unfold lA pOperand.dgL; rw [h]
      cases hc : isL c with
      | false =>
        refine iteT ?_
        have num := fin (num (el.trans hc))
        refine ⟨_, rfl, _, rfl, t, beh t a, rfl, hl, ?_⟩
        cases hn : pNumber t (beh t a) with
        | error c => rw [hn] at num; exact num
        | ok r =>
          rw [hn] at num
          intro p H1 s1 e1
          refine ⟨p, _, rfl, SqT.of e1, rfl, _, _, rfl, _, _, rfl, rfl, ?_⟩
          exact ⟨_, rfl, (by show 2 ≤ sizeLine; decide), fun q1 n1 => ⟨_, rfl, (by show 2 ≤ sizeLine; decide), fun q2 n2 => num p H1 s1 e1 q1 n1 q2 n2⟩⟩
      | true =>
        refine iteF ?_
        rw [if_pos (by rw [show pOperand.dgL t (beh t a) = isL c from el]; exact hc)] at q
        refine ⟨_, rfl, _, rfl, (by show 0 ≤ sizeLine; decide), fun tz ntz => ?_⟩
        have etz : upd H tz (HO.tup []) tz = some (HO.tup []) := upd_same
        have s1 : Same H (upd H tz (HO.tup [])) := same_upd ntz
        generalize upd H tz (HO.tup []) = H1 at etz s1 ⊢
        refine ⟨t, beh t a, tz, [], rfl, hl, SqT.of etz, by decide, ?_⟩
        cases hn : pName t (beh t a) [] with
        | error c => rw [hn] at q; exact q.same s1
        | ok r =>
          rw [hn] at q
          have q : Tells CT H (match envGet st.env r.1 with | some (false, i) => .ok (Opd.plc i, r.2) | _ => .error (beh t a + 1)) E fun r => ∀ (p ra : Addr) (H' : Hp), Same H H' → H' p = some (.tup [.ref ra, .int (r.2 : Int)]) → OpdAt H' ra r.1 → Q (.ref p) H' := q
          intro p H2 s2 e2
          have s12 := s1.trans s2
          have hx2 := hx.same s12
          obtain ⟨dx, ex⟩ := hx2.ins
          obtain ⟨kvs, ed, ek⟩ := hx2.env
          refine ⟨p, _, rfl, SqT.of e2, rfl, _, _, rfl, _, _, rfl, rfl, ?_⟩
          refine ⟨_, rfl, x, CA, dx, _, .ref d, rfl, ex, PA_.cl, PA_.nP, (by kernel_rfl), d, rfl, .inl ⟨kvs, .inl ed⟩, _, rfl, (by show 2 ≤ sizeLine; decide), fun td ntd => ?_⟩
          have etd : upd H2 td (HO.tup [V.bl true, V.non]) td = some (HO.tup [V.bl true, V.non]) := upd_same
          have s3 : Same H2 (upd H2 td (HO.tup [V.bl true, V.non])) := same_upd ntd
          generalize upd H2 td (HO.tup [V.bl true, V.non]) = H3 at etd s3 ⊢
          have s13 := s12.trans s3
          refine ⟨_, DGet.k (k := .inr (Tx r.1)) (s3 _ _ ed), ?_⟩
          have gt := ek.get r.1
          cases hg : envGet st.env r.1 with
          | none =>
            rw [hg] at gt q
            rw [show valV kvs (.inr (Tx r.1)) = none from gt]
            refine ⟨td, _, rfl, SqT.of etd, rfl, _, _, rfl, _, _, rfl, rfl, ?_⟩
            refine ⟨_, rfl, true, rfl, ?_⟩
            refine iteT ?_
            refine ⟨_, rfl, _, _, rfl, rfl, (by show 1 ≤ 1000; decide), ?_⟩
            exact raise_end rfl fun dd H' s n e => q.same s13 dd H' s n e
          | some pr =>
            obtain ⟨b, i⟩ := pr
            rw [hg] at gt q
            obtain ⟨rr, g1, g2⟩ := gt
            rw [g1]
            refine ⟨rr, _, rfl, SqT.of (s3 _ _ g2), rfl, _, _, rfl, _, _, rfl, rfl, ?_⟩
            cases b with
            | true =>
              refine ⟨_, rfl, true, rfl, ?_⟩
              refine iteT ?_
              refine ⟨_, rfl, _, _, rfl, rfl, (by show 1 ≤ 1000; decide), ?_⟩
              exact raise_end rfl fun dd H' s n e => q.same s13 dd H' s n e
            | false =>
              refine ⟨_, rfl, false, rfl, ?_⟩
              refine iteF ?_
              refine ⟨_, rfl, (by show 2 ≤ sizeLine; decide), fun q1 n1 => ⟨_, rfl, (by show 2 ≤ sizeLine; decide), fun q2 n2 => ?_⟩⟩
              exact q q2 q1 _ (s13.trans ((same_upd n1).trans (same_upd n2))) upd_same (same_upd n2 _ _ upd_same)
end

end Vf

set_option maxRecDepth 100000
set_option maxHeartbeats 8000000
namespace Vf
open PySem PySem.Spec PyProof.Rows L2
/-! ### the value of a step -/
def pCnt (t : List Nat) (b : Nat) (sg : List Nat) (o : Opd) : Ex' ((List Nat × Opd × Oth) × Nat) := match pCount t (beh t (b + sg.length)) with
  | .error c => .error c
  | .ok r => .ok ((sg, o, .cnt r.1), r.2)
def pRest (env : Env') (t : List Nat) (o : Opd) (e : Nat) : Ex' ((List Nat × Opd × Oth) × Nat) :=
  match t[beh t e]? with
  | none => .ok (([], o, .non), e)
  | some c =>
    if c = 43 ∨ c = 45 ∨ c = 42 then (match pOperand env t (beh t e + 1) with
      | .error c => .error c
      | .ok r => .ok (([c], o, .opd r.1), r.2))
    else if c = 60 ∨ c = 62 then (if t[beh t e + 1]? = some c then pCnt t (beh t e) [c, c] o else .error (beh t e + 2))
    else if c = 38 then pCnt t (beh t e) [c] o
    else .error (beh t e + 1)
def pPlain (env : Env') (t : List Nat) (s : Nat) : Ex' ((List Nat × Opd × Oth) × Nat) := match pOperand env t s with
  | .error c => .error c
  | .ok r => pRest env t r.1 r.2
def pCell (env : Env') (t : List Nat) (e i : Nat) : Ex' ((List Nat × Opd × Oth) × Nat) := match pSign t e 91 with
  | .error c => .error c
  | .ok b => match pOperand env t b with
    | .error c => .error c
    | .ok r => match pSign t r.2 93 with
      | .error c => .error c
      | .ok e3 => .ok (([91], r.1, .cnt i), e3)
def pValue (env : Env') (t : List Nat) (a : Nat) : Ex' ((List Nat × Opd × Oth) × Nat) :=
  if lA t (beh t a) then (match pName t (beh t a) [] with
    | .error c => .error c
    | .ok r => match envGet env r.1 with
      | some (true, i) => pCell env t r.2 i
      | _ => pPlain env t (beh t a))
  else pPlain env t (beh t a)
/-- a step without its name -/
def ValAt (H : Hp) (r : Addr) (s : List Nat × Opd × Oth) : Prop := ∃ (ra : Addr) (v : V), H r = some (.tup [.str (Tx s.1), .ref ra, v]) ∧ OpdAt H ra s.2.1 ∧ OthAt H v s.2.2
def spRVal (CA CT : Addr) : Sp := fun vs H Q E => ∃ (x l1 l2 d : Addr) (st : Pst) (t : List Nat) (a : Nat), vs = [.ref x, .str (Tx t), .int (a : Int)] ∧ PsAt CA H x l1 l2 d st ∧ t.length ≤ LL ∧
  Tells CT H (pValue st.env t a) E fun r => ∀ (p ra : Addr) (H' : Hp), Same H H' → H' p = some (.tup [.ref ra, .int (r.2 : Int)]) → ValAt H' ra r.1 → Q (.ref p) H'
theorem lit_open : ("[" : Str) = Tx [91] := by decide +kernel
theorem lit_close : ("]" : Str) = Tx [93] := by decide +kernel
theorem lit_amp : ("&" : Str) = Tx [38] := by decide +kernel
theorem lit_pmt : ("+-*" : Str) = Tx [43, 45, 42] := by decide +kernel
theorem lit_ltgt : ("<>" : Str) = Tx [60, 62] := by decide +kernel
theorem tx_app (a b : List Nat) : Tx a ++ Tx b = Tx (a ++ b) := by
  show Str.mk (a.toArray ++ b.toArray) = Str.mk _
  simp
section
variable {P : Program} {w : World} {K : PySem.W.Frag} {mg : Str → Option Value} {base : Heap} {CT CA CR CN : Addr}
abbrev sRVal : Stmt := inClass (topS 21) 5
theorem scRVal : FnScope ["self", "line", "at", "start", "name", "end", "is_table", "place", "operand", "sign", "other", "count"] ["self", "line", "at"] (defScope sRVal) := ⟨rfl, rfl, rfl, by decide +kernel, rfl, by decide +kernel, by decide +kernel⟩
theorem ok_rval {f : Addr} {fd : FuncData} (F : Fun K "read_value" "Parsed.read_value" sRVal f fd) (T : Bk mg) {u : Tok} (m_LETTERS : mg "LETTERS" = some (.str sLETTERS u)) (PA_ : PaC K mg CA) (N_BadText : Ex P w K mg base "BadText" CT ["column"]) (G_behind_spaces : Df P w K mg base "behind_spaces" 1 ["text", "at"] spBeh)
    (G_read_count : Dn P w K mg base "read_count" 4 ["line", "at"] (spRCnt CT)) (G_read_name : Dn P w K mg base "read_name" 3 ["line", "at", "barred"] (spRName K CT)) (G_need_sign : Dn P w K mg base "need_sign" 3 ["line", "at", "sign"] (spNSg CT)) (M_read_operand : Mx P w K mg base CA "read_operand" 5 ["self", "line", "at"] (spROpd CA CT)) : FnOk P w K mg base (L2N.CX P w) 6 f fd ["self", "line", "at"] (spRVal CA CT) := by
  refine okN F scRVal (fun vs H Q E h => ?_) (fun cdv A outer s H vs Q E hr h => ?_)
  · obtain ⟨x, l1, l2, d, st, t, a, rfl, _⟩ := h
    rfl
  · obtain ⟨x, l1, l2, d, st, t, a, rfl, hx, hl, q⟩ := h
    refine ⟨_, (pss_cons (ps_set (i := 3) scRVal.nd rfl (Or.inl rfl) (pe_call G_behind_spaces.ok (hr.mono (by decide)) rfl G_behind_spaces.m G_behind_spaces.kp G_behind_spaces.b .nil pass0 (pa_cons (pv 1) (pa_cons (pv 2) pa_nil))))
  (C8.pss_cut (ps_if (PW.pt (pw_and (pt_cmpR op_ne (pe_slice sl_str (pv 1) (po_some (pv 3)) (po_some (pe_op op_add (pv 3) pe_int))) pe_str (nomark _)) (pw_and1 (pt_cmpR op_in_sign (pe_ix ix_str (pv 1) (pv 3) (fun _ _ => rfl)) (pe_glob (v := V.str sLETTERS) rfl m_LETTERS ⟨_, rfl⟩) (by rfl)))))
    (pss_cons (ps_asg (pe_call G_read_name.ok (hr.mono (by decide)) rfl G_read_name.m G_read_name.kp G_read_name.b .nil (E := E) (L2N.passes_call (L2N.takes_of rfl rfl rfl rfl) (fun _ _ _ _ h => h)) (pa_cons (pv 1) (pa_cons (pv 3) (pa_cons (pe_tup pa_nil) pa_nil)))) (pg_tup (by rfl) (pgs_cons (pg_name (i := 4) scRVal.nd rfl (Or.inl rfl)) (pgs_cons (pg_name (i := 5) scRVal.nd rfl (Or.inl rfl)) pgs_nil))))
    (pss_cons (ps_asg (pe_dget2 (hu1 hr.units) (pe_fld (pv 0) rfl) (pv 4) (pe_tup (pa_cons pe_bl (pa_cons pe_non pa_nil))) ⟨by rfl, by rfl, by rfl, by rfl⟩) (pg_tup (by rfl) (pgs_cons (pg_name (i := 6) scRVal.nd rfl (Or.inl rfl)) (pgs_cons (pg_name (i := 7) scRVal.nd rfl (Or.inl rfl)) pgs_nil))))
    (pss_one (ps_if (pt_val (pv 6))
      (pss_cons (ps_asg (pe_meth (pv 0) PA_.cl M_read_operand.m M_read_operand.ok (hr.mono (by decide)) M_read_operand.b .nil (E := E) (L2N.passes_call (L2N.takes_of rfl rfl rfl rfl) (fun _ _ _ _ h => h)) (pa_cons (pv 1) (pa_cons (pe_call G_need_sign.ok (hr.mono (by decide)) rfl G_need_sign.m G_need_sign.kp G_need_sign.b .nil (E := E) (L2N.passes_call (L2N.takes_of rfl rfl rfl rfl) (fun _ _ _ _ h => h)) (pa_cons (pv 1) (pa_cons (pv 5) (pa_cons pe_str pa_nil)))) pa_nil))) (pg_tup (by rfl) (pgs_cons (pg_name (i := 8) scRVal.nd rfl (Or.inl rfl)) (pgs_cons (pg_name (i := 5) scRVal.nd rfl (Or.inl rfl)) pgs_nil))))
      (pss_one (ps_ret (pe_tup (pa_cons (pe_tup (pa_cons pe_str (pa_cons (pv 8) (pa_cons (pv 7) pa_nil)))) (pa_cons (pe_call G_need_sign.ok (hr.mono (by decide)) rfl G_need_sign.m G_need_sign.kp G_need_sign.b .nil (E := E) (L2N.passes_call (L2N.takes_of rfl rfl rfl rfl) (fun _ _ _ _ h => h)) (pa_cons (pv 1) (pa_cons (pv 5) (pa_cons pe_str pa_nil)))) pa_nil))))))
      pss_nil))))
    pss_nil)
  (pss_cons (ps_asg (pe_meth (pv 0) PA_.cl M_read_operand.m M_read_operand.ok (hr.mono (by decide)) M_read_operand.b .nil (E := E) (L2N.passes_call (L2N.takes_of rfl rfl rfl rfl) (fun _ _ _ _ h => h)) (pa_cons (pv 1) (pa_cons (pv 3) pa_nil))) (pg_tup (by rfl) (pgs_cons (pg_name (i := 8) scRVal.nd rfl (Or.inl rfl)) (pgs_cons (pg_name (i := 5) scRVal.nd rfl (Or.inl rfl)) pgs_nil))))
  (pss_cons (ps_set (i := 2) scRVal.nd rfl (Or.inl rfl) (pe_call G_behind_spaces.ok (hr.mono (by decide)) rfl G_behind_spaces.m G_behind_spaces.kp G_behind_spaces.b .nil pass0 (pa_cons (pv 1) (pa_cons (pv 5) pa_nil))))
  (pss_cons (ps_set (i := 9) scRVal.nd rfl (Or.inl rfl) (pe_slice sl_str (pv 1) (po_some (pv 2)) (po_some (pe_op op_add (pv 2) pe_int))))
  (pss_cons (ps_if (pt_cmpR op_eq (pv 9) pe_str (nomark _))
    (pss_one (ps_ret (pe_tup (pa_cons (pe_tup (pa_cons pe_str (pa_cons (pv 8) (pa_cons pe_non pa_nil)))) (pa_cons (pv 5) pa_nil)))))
    pss_nil)
  (pss_cons (ps_if (pt_cmpR op_in_sign (pv 9) pe_str (by rfl))
    (pss_cons (ps_asg (pe_meth (pv 0) PA_.cl M_read_operand.m M_read_operand.ok (hr.mono (by decide)) M_read_operand.b .nil (E := E) (L2N.passes_call (L2N.takes_of rfl rfl rfl rfl) (fun _ _ _ _ h => h)) (pa_cons (pv 1) (pa_cons (pe_op op_add (pv 2) pe_int) pa_nil))) (pg_tup (by rfl) (pgs_cons (pg_name (i := 10) scRVal.nd rfl (Or.inl rfl)) (pgs_cons (pg_name (i := 5) scRVal.nd rfl (Or.inl rfl)) pgs_nil))))
    (pss_one (ps_ret (pe_tup (pa_cons (pe_tup (pa_cons (pv 9) (pa_cons (pv 8) (pa_cons (pv 10) pa_nil)))) (pa_cons (pv 5) pa_nil))))))
    pss_nil)
  (C8.pss_cut (ps_if (pt_cmpR op_in_sign (pv 9) pe_str (by rfl))
    (pss_cons (ps_if (pt_cmpR op_ne (pe_slice sl_str (pv 1) (po_some (pe_op op_add (pv 2) pe_int)) (po_some (pe_op op_add (pv 2) pe_int))) (pv 9) (nomark _))
      (pss_one (L2N.ps_raise rfl (L2N.takes_of rfl rfl rfl rfl) (pmk_oexN N_BadText.ox N_BadText.iC N_BadText.tI N_BadText.ok (hr.mono (by decide)) N_BadText.b pass0 (by rfl) N_BadText.m (pa_cons (pe_op op_add (pv 2) pe_int) pa_nil))))
      pss_nil)
    (pss_one (ps_set (i := 9) scRVal.nd rfl (Or.inl rfl) (pe_op op_add_str (pv 9) (pv 9)))))
    (pss_one (ps_if (pt_cmpR op_ne (pv 9) pe_str (nomark _))
      (pss_one (L2N.ps_raise rfl (L2N.takes_of rfl rfl rfl rfl) (pmk_oexN N_BadText.ox N_BadText.iC N_BadText.tI N_BadText.ok (hr.mono (by decide)) N_BadText.b pass0 (by rfl) N_BadText.m (pa_cons (pe_op op_add (pv 2) pe_int) pa_nil))))
      pss_nil)))
  (pss_cons (ps_asg (pe_call G_read_count.ok (hr.mono (by decide)) rfl G_read_count.m G_read_count.kp G_read_count.b .nil (E := E) (L2N.passes_call (L2N.takes_of rfl rfl rfl rfl) (fun _ _ _ _ h => h)) (pa_cons (pv 1) (pa_cons (pe_call G_behind_spaces.ok (hr.mono (by decide)) rfl G_behind_spaces.m G_behind_spaces.kp G_behind_spaces.b .nil pass0 (pa_cons (pv 1) (pa_cons (pe_op op_add (pv 2) (pe_callB call_len_str (by rfl) T.len (by decide +kernel) (pa_cons (pv 9) pa_nil))) pa_nil))) pa_nil))) (pg_tup (by rfl) (pgs_cons (pg_name (i := 11) scRVal.nd rfl (Or.inl rfl)) (pgs_cons (pg_name (i := 5) scRVal.nd rfl (Or.inl rfl)) pgs_nil))))
  (pss_one (ps_ret (pe_tup (pa_cons (pe_tup (pa_cons (pv 9) (pa_cons (pv 8) (pa_cons (pv 11) pa_nil)))) (pa_cons (pv 5) pa_nil)))))))))))))), ?_⟩
    refine ⟨_, rfl, _, rfl, t, a, rfl, hl, ?_⟩
    -- the first if gives back what is read, or leaves all as it was
    refine ⟨fun σ H1 => Same H H1 ∧ Tells CT H1 (pPlain st.env t (beh t a)) E (fun r => ∀ (p ra : Addr) (H' : Hp), Same H1 H' → H' p = some (.tup [.ref ra, .int (r.2 : Int)]) → ValAt H' ra r.1 → Q (.ref p) H') ∧ ∃ v4 v5 v6 v7, σ = [some (.ref x), some (.str (Tx t)), some (.int (a : Int)), some (.int ((beh t a : Nat) : Int)), v4, v5, v6, v7, none, none, none, none], ?_, ?_⟩
    · refine ⟨_, rfl, _, rfl, _, rfl, _, rfl, _, _, rfl, rfl, _, rfl, ⟨Tx t, rfl, big_line hl, rfl, _, rfl, ?_⟩⟩
      rw [tx_sign t (m := beh t a) rfl rfl, lit_empty, sign_none]
      unfold pValue at q
      cases h : t[beh t a]? with
      | none =>
        rw [if_neg (by unfold lA pOperand.dgL; rw [h]; decide)] at q
        rw [decide_eq_true rfl]
        refine iteF ?_
        refine iteF ?_
        exact ⟨Same.refl _, q, _, _, _, _, rfl⟩
      | some c =>
        rw [decide_eq_false (fun z => nomatch z)]
        refine iteT ?_
        refine ⟨_, rfl, _, rfl, Tx t, _, c, rfl, rfl, big_line hl, ix_tx h rfl, c, _, rfl, rfl, _, rfl, ?_⟩
        rw [in_letters]
        have el : lA t (beh t a) = isL c := by unfold lA pOperand.dgL; rw [h]
        cases hc : isL c with
        | false =>
          rw [if_neg (by rw [el, hc]; decide)] at q
          refine iteF ?_
          exact ⟨Same.refl _, q, _, _, _, _, rfl⟩
        | true =>
          rw [if_pos (by rw [el, hc])] at q
          refine iteT ?_
          refine ⟨_, rfl, _, rfl, (by show 0 ≤ sizeLine; decide), fun tz ntz => ?_⟩
          have etz : upd H tz (HO.tup []) tz = some (HO.tup []) := upd_same
          have s1 : Same H (upd H tz (HO.tup [])) := same_upd ntz
          generalize upd H tz (HO.tup []) = H1 at etz s1 ⊢
          refine ⟨t, beh t a, tz, [], rfl, hl, SqT.of etz, by decide, ?_⟩
          cases hn : pName t (beh t a) [] with
          | error c => rw [hn] at q; exact q.same s1
          | ok r =>
            rw [hn] at q
            have q : Tells CT H (match envGet st.env r.1 with | some (true, i) => pCell st.env t r.2 i | _ => pPlain st.env t (beh t a)) E fun r => ∀ (p ra : Addr) (H' : Hp), Same H H' → H' p = some (.tup [.ref ra, .int (r.2 : Int)]) → ValAt H' ra r.1 → Q (.ref p) H' := q
            intro p H2 s2 e2
            have s12 := s1.trans s2
            have hx2 := hx.same s12
            obtain ⟨dx, ex⟩ := hx2.ins
            obtain ⟨kvs, ed, ek⟩ := hx2.env
            refine ⟨p, _, rfl, SqT.of e2, rfl, _, _, rfl, _, _, rfl, rfl, ?_⟩
            refine ⟨_, rfl, x, CA, dx, _, .ref d, rfl, ex, PA_.cl, PA_.nP, (by kernel_rfl), d, rfl, .inl ⟨kvs, .inl ed⟩, _, rfl, (by show 2 ≤ sizeLine; decide), fun td ntd => ?_⟩
            have etd : upd H2 td (HO.tup [V.bl false, V.non]) td = some (HO.tup [V.bl false, V.non]) := upd_same
            have s3 : Same H2 (upd H2 td (HO.tup [V.bl false, V.non])) := same_upd ntd
            generalize upd H2 td (HO.tup [V.bl false, V.non]) = H3 at etd s3 ⊢
            have s13 := s12.trans s3
            refine ⟨_, DGet.k (k := .inr (Tx r.1)) (s3 _ _ ed), ?_⟩
            have gt := ek.get r.1
            have keep : Tells CT H (pPlain st.env t (beh t a)) E (fun r => ∀ (p ra : Addr) (H' : Hp), Same H H' → H' p = some (.tup [.ref ra, .int (r.2 : Int)]) → ValAt H' ra r.1 → Q (.ref p) H') → Tells CT H3 (pPlain st.env t (beh t a)) E (fun r => ∀ (p ra : Addr) (H' : Hp), Same H3 H' → H' p = some (.tup [.ref ra, .int (r.2 : Int)]) → ValAt H' ra r.1 → Q (.ref p) H') := fun q => by
              cases hp : pPlain st.env t (beh t a) with
              | error c => rw [hp] at q; exact q.same s13
              | ok r => rw [hp] at q; exact fun p ra H' s e v => q p ra H' (s13.trans s) e v
            cases hg : envGet st.env r.1 with
            | none =>
              rw [hg] at gt q
              rw [show valV kvs (.inr (Tx r.1)) = none from gt]
              refine ⟨td, _, rfl, SqT.of etd, rfl, _, _, rfl, _, _, rfl, rfl, ?_⟩
              refine ⟨_, rfl, false, rfl, ?_⟩
              refine iteF ?_
              exact ⟨s13, keep q, _, _, _, _, rfl⟩
            | some pr =>
              obtain ⟨b, i⟩ := pr
              rw [hg] at gt q
              obtain ⟨rr, g1, g2⟩ := gt
              rw [g1]
              refine ⟨rr, _, rfl, SqT.of (s3 _ _ g2), rfl, _, _, rfl, _, _, rfl, rfl, ?_⟩
              cases b with
              | false =>
                refine ⟨_, rfl, false, rfl, ?_⟩
                refine iteF ?_
                exact ⟨s13, keep q, _, _, _, _, rfl⟩
              | true =>
                refine ⟨_, rfl, true, rfl, ?_⟩
                refine iteT ?_
                have q : Tells CT H (pCell st.env t r.2 i) E fun r => ∀ (p ra : Addr) (H' : Hp), Same H H' → H' p = some (.tup [.ref ra, .int (r.2 : Int)]) → ValAt H' ra r.1 → Q (.ref p) H' := q
                unfold pCell at q
                have ex3 := s3 _ _ ex
                refine ⟨_, rfl, x, dx, _, rfl, ex3, (by kernel_rfl), _, rfl, _, rfl, _, rfl, t, r.2, 91, (by rw [← lit_open]; rfl), hl, ?_⟩
                cases h1 : pSign t r.2 91 with
                | error c => rw [h1] at q; exact q.same s13
                | ok b =>
                  rw [h1] at q
                  have q : Tells CT H (match pOperand st.env t b with | .error c => .error c | .ok r => match pSign t r.2 93 with | .error c => .error c | .ok e3 => .ok (([91], r.1, .cnt i), e3)) E fun r => ∀ (p ra : Addr) (H' : Hp), Same H H' → H' p = some (.tup [.ref ra, .int (r.2 : Int)]) → ValAt H' ra r.1 → Q (.ref p) H' := q
                  refine ⟨x, l1, l2, d, st, t, b, rfl, hx2.same s3, hl, ?_⟩
                  cases hp : pOperand st.env t b with
                  | error c => rw [hp] at q; exact q.same s13
                  | ok r2 =>
                    rw [hp] at q
                    have q : Tells CT H (match pSign t r2.2 93 with | .error c => .error c | .ok e3 => .ok (([91], r2.1, .cnt i), e3)) E fun r => ∀ (p ra : Addr) (H' : Hp), Same H H' → H' p = some (.tup [.ref ra, .int (r.2 : Int)]) → ValAt H' ra r.1 → Q (.ref p) H' := q
                    intro p2 ra H4 s4 e4 ho
                    refine ⟨p2, _, rfl, SqT.of e4, rfl, _, _, rfl, _, _, rfl, rfl, ?_⟩
                    refine ⟨_, rfl, _, rfl, (by show 3 ≤ sizeLine; decide), fun q1 n1 => ?_⟩
                    have u1 := same_upd (o := HO.tup [V.str "[", V.ref ra, V.int (i : Int)]) n1
                    refine ⟨_, rfl, _, rfl, t, r2.2, 93, (by rw [← lit_close]; rfl), hl, ?_⟩
                    cases h3 : pSign t r2.2 93 with
                    | error c => rw [h3] at q; exact q.same (s13.trans (s4.trans u1))
                    | ok e3 =>
                      rw [h3] at q
                      refine ⟨(by show 2 ≤ sizeLine; decide), fun q2 n2 => ?_⟩
                      have u2 := same_upd (o := HO.tup [V.ref q1, V.int (e3 : Int)]) n2
                      exact q q2 q1 _ (s13.trans (s4.trans (u1.trans u2))) upd_same ⟨ra, .int (i : Int), (by rw [← lit_open]; exact u2 _ _ upd_same), ho.up (.of (u1.trans u2)), rfl⟩
    · rintro σ H1 ⟨s1, q, v4, v5, v6, v7, rfl⟩
      have hx1 := hx.same s1
      obtain ⟨dx, ex⟩ := hx1.ins
      refine ⟨_, rfl, x, dx, _, rfl, ex, (by kernel_rfl), _, rfl, _, rfl, ?_⟩
      refine ⟨x, l1, l2, d, st, t, beh t a, rfl, hx1, hl, ?_⟩
      unfold pPlain at q
      cases hp : pOperand st.env t (beh t a) with
      | error c => rw [hp] at q; exact q
      | ok r =>
        rw [hp] at q
        have q : Tells CT H1 (pRest st.env t r.1 r.2) E (fun r => ∀ (p ra : Addr) (H' : Hp), Same H1 H' → H' p = some (.tup [.ref ra, .int (r.2 : Int)]) → ValAt H' ra r.1 → Q (.ref p) H') := q
        obtain ⟨o, e⟩ := r
        intro p ra H2 s2 e2 ho
        have ho : OpdAt H2 ra o := ho
        refine ⟨p, _, rfl, SqT.of e2, rfl, _, _, rfl, _, _, rfl, rfl, ?_⟩
        refine ⟨_, rfl, _, rfl, t, e, rfl, hl, ?_⟩
        refine ⟨_, rfl, _, rfl, _, rfl, _, rfl, _, _, rfl, rfl, _, rfl, ⟨Tx t, rfl, big_line hl, ?_⟩⟩
        rw [tx_sign t (m := beh t e) rfl rfl]
        refine ⟨_, rfl, rfl, _, rfl, ?_⟩
        rw [lit_empty, sign_none]
        unfold pRest at q
        cases h : t[beh t e]? with
        | none =>
          rw [h] at q
          rw [decide_eq_true rfl]
          refine iteT ?_
          refine ⟨_, rfl, (by show 3 ≤ sizeLine; decide), fun q1 n1 => ⟨_, rfl, (by show 2 ≤ sizeLine; decide), fun q2 n2 => ?_⟩⟩
          exact q q2 q1 _ (s2.trans ((same_upd n1).trans (same_upd n2))) upd_same ⟨ra, .non, (by rw [← lit_empty]; exact same_upd n2 _ _ upd_same), ho.up (.of ((same_upd n1).trans (same_upd n2))), rfl⟩
        | some c =>
          rw [h] at q
          have q : Tells CT H1 (if c = 43 ∨ c = 45 ∨ c = 42 then (match pOperand st.env t (beh t e + 1) with
              | .error c => .error c
              | .ok r => .ok (([c], o, .opd r.1), r.2))
            else if c = 60 ∨ c = 62 then (if t[beh t e + 1]? = some c then pCnt t (beh t e) [c, c] o else .error (beh t e + 2))
            else if c = 38 then pCnt t (beh t e) [c] o
            else .error (beh t e + 1)) E (fun r => ∀ (p ra : Addr) (H' : Hp), Same H1 H' → H' p = some (.tup [.ref ra, .int (r.2 : Int)]) → ValAt H' ra r.1 → Q (.ref p) H') := q
          rw [decide_eq_false (fun z => nomatch z)]
          refine iteF ?_
          refine ⟨_, rfl, c, _, rfl, rfl, _, rfl, ?_⟩
          rw [lit_pmt, tx_cps]
          have pm : (c ∈ [43, 45, 42]) ↔ (c = 43 ∨ c = 45 ∨ c = 42) := by simp
          by_cases hpm : c = 43 ∨ c = 45 ∨ c = 42
          · rw [if_pos hpm] at q
            rw [decide_eq_true (pm.mpr hpm)]
            refine iteT ?_
            have ex2 := s2 _ _ ex
            refine ⟨_, rfl, x, dx, _, rfl, ex2, (by kernel_rfl), _, rfl, _, rfl, _, _, rfl, rfl, ?_⟩
            refine ⟨x, l1, l2, d, st, t, beh t e + 1, rfl, hx1.same s2, hl, ?_⟩
            cases hp2 : pOperand st.env t (beh t e + 1) with
            | error c => rw [hp2] at q; exact q.same s2
            | ok r2 =>
              rw [hp2] at q
              intro p2 rb H3 s3 e3 ho2
              refine ⟨p2, _, rfl, SqT.of e3, rfl, _, _, rfl, _, _, rfl, rfl, ?_⟩
              refine ⟨_, rfl, _, rfl, _, rfl, (by show 3 ≤ sizeLine; decide), fun q1 n1 => ⟨_, rfl, (by show 2 ≤ sizeLine; decide), fun q2 n2 => ?_⟩⟩
              have u12 := (same_upd (o := HO.tup [V.str (Tx [c]), V.ref ra, V.ref rb]) n1).trans (same_upd (o := HO.tup [V.ref q1, V.int (r2.2 : Int)]) n2)
              exact q q2 q1 _ (s2.trans (s3.trans u12)) upd_same ⟨ra, .ref rb, same_upd n2 _ _ upd_same, (ho.up (.of s3)).up (.of u12), rb, rfl, ho2.up (.of u12)⟩
          · rw [if_neg hpm] at q
            rw [decide_eq_false (fun z => hpm (pm.mp z))]
            refine iteF ?_
            have lg : (c ∈ [60, 62]) ↔ (c = 60 ∨ c = 62) := by simp
            refine ⟨fun σ' H3 => ∃ sg : List Nat, H3 = H2 ∧ sg.length ≤ 2 ∧ σ' = [some (.ref x), some (.str (Tx t)), some (.int ((beh t e : Nat) : Int)), some (.int ((beh t a : Nat) : Int)), v4, some (.int (e : Int)), v6, v7, some (.ref ra), some (.str (Tx sg)), none, none] ∧ Tells CT H1 (pCnt t (beh t e) sg o) E (fun r => ∀ (p ra : Addr) (H' : Hp), Same H1 H' → H' p = some (.tup [.ref ra, .int (r.2 : Int)]) → ValAt H' ra r.1 → Q (.ref p) H'), ?_, ?_⟩
            · refine ⟨_, rfl, c, _, rfl, rfl, _, rfl, ?_⟩
              rw [lit_ltgt, tx_cps]
              by_cases hlg : c = 60 ∨ c = 62
              · rw [if_pos hlg] at q
                rw [decide_eq_true (lg.mpr hlg)]
                refine iteT ?_
                refine ⟨_, rfl, _, rfl, _, _, rfl, rfl, _, rfl, _, rfl, _, _, rfl, rfl, _, rfl, ⟨Tx t, rfl, big_line hl, _, rfl, rfl, _, rfl, ?_⟩⟩
                rw [tx_sign t (a := ((beh t e : Nat) : Int) + 1) (b := ((beh t e : Nat) : Int) + 2) (m := beh t e + 1) (by omega) (by omega), show V.str (Tx (some c).toList) = V.str (Tx [c]) from rfl, sign_eq]
                by_cases h2 : t[beh t e + 1]? = some c
                · rw [if_pos h2] at q
                  rw [decide_eq_true h2]
                  refine iteF ?_
                  refine ⟨_, rfl, _, rfl, Tx [c], Tx [c], rfl, rfl, (by rw [tx_len, sizeLine_eq]; show 1 + 1 ≤ _; omega), ?_⟩
                  rw [tx_app]
                  exact ⟨[c, c], rfl, by show 2 ≤ 2; decide, rfl, q⟩
                · rw [if_neg h2] at q
                  rw [decide_eq_false h2]
                  refine iteT ?_
                  refine ⟨_, rfl, _, _, rfl, rfl, (by show 1 ≤ 1000; decide), ?_⟩
                  exact raise_end rfl fun dd H' s n e => q.same s2 dd H' s n e
              · rw [if_neg hlg] at q
                rw [decide_eq_false (fun z => hlg (lg.mp z))]
                refine iteF ?_
                refine ⟨_, rfl, rfl, _, rfl, ?_⟩
                rw [lit_amp, show V.str (Tx (some c).toList) = V.str (Tx [c]) from rfl, tx_eq]
                by_cases h38 : c = 38
                · rw [if_pos h38] at q
                  rw [decide_eq_true (by rw [h38])]
                  refine iteF ?_
                  exact ⟨[c], rfl, by show 1 ≤ 2; decide, rfl, q⟩
                · rw [if_neg h38] at q
                  rw [decide_eq_false (fun z => h38 (List.cons.inj z).1)]
                  refine iteT ?_
                  refine ⟨_, rfl, _, _, rfl, rfl, (by show 1 ≤ 1000; decide), ?_⟩
                  exact raise_end rfl fun dd H' s n e => q.same s2 dd H' s n e
            · rintro σ' H3 ⟨sg, rfl, lsg, rfl, q⟩
              unfold pCnt at q
              refine ⟨_, rfl, _, rfl, _, rfl, _, rfl, Tx sg, rfl, (by rw [tx_len, sizeLine_eq]; omega), ?_⟩
              refine ⟨_, _, rfl, rfl, t, beh t e + sg.length, (by rw [tx_len]; rfl), hl, ?_⟩
              refine ⟨t, beh t (beh t e + sg.length), rfl, hl, ?_⟩
              cases hc : pCount t (beh t (beh t e + sg.length)) with
              | error c => rw [hc] at q; exact q.same s2
              | ok r =>
                rw [hc] at q
                intro p2 H4 s4 e4
                refine ⟨p2, _, rfl, SqT.of e4, rfl, _, _, rfl, _, _, rfl, rfl, ?_⟩
                refine ⟨_, rfl, _, rfl, _, rfl, (by show 3 ≤ sizeLine; decide), fun q1 n1 => ⟨_, rfl, (by show 2 ≤ sizeLine; decide), fun q2 n2 => ?_⟩⟩
                have u12 := (same_upd (o := HO.tup [V.str (Tx sg), V.ref ra, V.int (r.1 : Int)]) n1).trans (same_upd (o := HO.tup [V.ref q1, V.int (r.2 : Int)]) n2)
                exact q q2 q1 _ (s2.trans (s4.trans u12)) upd_same ⟨ra, .int (r.1 : Int), same_upd n2 _ _ upd_same, (ho.up (.of s4)).up (.of u12), rfl⟩
end

end Vf

set_option maxRecDepth 100000
set_option maxHeartbeats 8000000
namespace Vf
open PySem PySem.Spec PyProof.Rows L2
/-! ### lines -/
def tableW : List Nat := [116, 97, 98, 108, 101]
def pNew (env : Env') (t : List Nat) (a : Nat) : Ex' (List Nat × Nat) := match pName t a [[120], tableW] with
  | .error c => .error c
  | .ok r => if (envGet env r.1).isSome then .error (a + 1) else .ok r
def pNums (t : List Nat) : Nat → Nat → List Int → Ex' (List Int)
  | 0, _, ns => .ok ns
  | f + 1, e, ns => if ns = [] ∨ beh t e < t.length then (match pSpace t e with
      | .error c => .error c
      | .ok b => match pNumber t b with
        | .error c => .error c
        | .ok r => pNums t f r.2 (ns ++ [r.1]))
    else .ok ns
def pTable (st : Pst) (t : List Nat) (a : Nat) : Ex' Pst := match pSpace t a with
  | .error c => .error c
  | .ok b => match pNew st.env t b with
    | .error c => .error c
    | .ok r => match pNums t (t.length + 2) r.2 [] with
      | .error c => .error c
      | .ok ns => .ok { tabs := st.tabs ++ [ns], steps := st.steps, env := st.env ++ [(r.1, true, st.tabs.length)] }
def pStep (st : Pst) (t : List Nat) (a : Nat) : Ex' Pst := match pNew st.env t a with
  | .error c => .error c
  | .ok r => match pSign t r.2 61 with
    | .error c => .error c
    | .ok b => match pValue st.env t b with
      | .error c => .error c
      | .ok v => if beh t v.2 < t.length then .error (beh t v.2 + 1)
        else .ok { tabs := st.tabs, steps := st.steps ++ [⟨r.1, v.1.1, v.1.2.1, v.1.2.2⟩], env := st.env ++ [(r.1, false, st.steps.length + 1)] }
def pLine (st : Pst) (t : List Nat) : Ex' Pst :=
  if beh t 0 = t.length then .ok st
  else if st.steps = [] ∧ cutT t (beh t 0) (rEnd t (beh t 0)) = tableW then pTable st t (beh t 0 + 5)
  else pStep st t (beh t 0)
/-- what is read stands within the line -/
theorem dig_len {t : List Nat} {a : Nat} (h : dgA t a = true) : a < t.length := by
  obtain ⟨c, h1, _⟩ := dgA_some h
  exact (List.getElem?_eq_some_iff.mp h1).1
theorem runD_le : ∀ l : List Nat, runD l ≤ l.length
  | [] => Nat.le_refl _
  | c :: l => by
    show (if isD c = true then runD l + 1 else 0) ≤ l.length + 1
    have := runD_le l
    split <;> omega
theorem digits_ok {t : List Nat} {a most : Nat} {r : Nat × Nat} (m1 : 1 ≤ most) (h : pDigits t a most = .ok r) : a < r.2 ∧ r.2 ≤ t.length := by
  unfold pDigits at h
  cases hd : dgA t a with
  | false => rw [if_neg (by rw [hd]; decide)] at h; cases h
  | true =>
    rw [if_pos hd] at h
    split at h
    · cases h
    · cases h
      have hl := dig_len hd
      obtain ⟨c, h1, h2⟩ := dgA_some hd
      have h3 := runD_yes h1 h2
      have h4 := runD_le (t.drop a)
      rw [List.length_drop] at h4
      unfold digN
      split
      · exact ⟨by omega, by omega⟩
      · exact ⟨by omega, by omega⟩
theorem number_ok {t : List Nat} {a : Nat} {r : Int × Nat} (h : pNumber t a = .ok r) : a < r.2 ∧ r.2 ≤ t.length := by
  unfold pNumber at h
  split at h
  · cases hp : pDigits t (a + 1) 30 with
    | error c => rw [hp] at h; cases h
    | ok x =>
      rw [hp] at h
      cases h
      have := digits_ok (by decide) hp
      exact ⟨by omega, this.2⟩
  · cases hp : pDigits t a 30 with
    | error c => rw [hp] at h; cases h
    | ok x =>
      rw [hp] at h
      cases h
      exact digits_ok (by decide) hp
theorem space_ok {t : List Nat} {a b : Nat} (h : pSpace t a = .ok b) : a < b ∧ b ≤ t.length := by
  unfold pSpace at h
  split at h
  · next h1 =>
    cases h
    have hl := (List.getElem?_eq_some_iff.mp h1).1
    have e := beh_sp h1
    have := beh_le t (a + 1)
    exact ⟨by omega, beh_len (by omega)⟩
  · cases h
theorem name_ok {t : List Nat} {a : Nat} {br : List (List Nat)} {r : List Nat × Nat} (h : pName t a br = .ok r) : a < r.2 ∧ r.2 ≤ t.length := by
  unfold pName at h
  cases h1 : t[a]? with
  | none => rw [h1] at h; cases h
  | some c =>
    rw [h1] at h
    have h : (if isL c = true then (if 8 < rEnd t a - a then Except.error (a + 9) else if cutT t a (rEnd t a) ∈ br then .error (if rEnd t a - a = 8 then rEnd t a else rEnd t a + 1) else .ok (cutT t a (rEnd t a), rEnd t a)) else .error (a + 1)) = (.ok r : Ex' _) := h
    have hl := (List.getElem?_eq_some_iff.mp h1).1
    split at h
    · next hc =>
      split at h
      · cases h
      · split at h
        · cases h
        · cases h
          have e := rEnd_yes h1 (show isN c = true by unfold isN; rw [hc]; rfl)
          have := rEnd_le t (a + 1)
          exact ⟨by show a < rEnd t a; omega, rEnd_len (by omega)⟩
    · cases h
def Few (st : Pst) : Prop := st.tabs.length ≤ LL ∧ st.steps.length ≤ LL ∧ st.env.length ≤ LL
/-- three objects may change -/
def Fr3 (a b c : Addr) (H H' : Hp) : Prop := ∀ x o, x ≠ a → x ≠ b → x ≠ c → H x = some o → H' x = some o
def spNewN (CA CT : Addr) : Sp := fun vs H Q E => ∃ (x l1 l2 d : Addr) (st : Pst) (t : List Nat) (a : Nat), vs = [.ref x, .str (Tx t), .int (a : Int)] ∧ PsAt CA H x l1 l2 d st ∧ t.length ≤ LL ∧
  Tells CT H (pNew st.env t a) E fun r => ∀ (p : Addr) (H' : Hp), Same H H' → H' p = some (.tup [.str (Tx r.1), .int (r.2 : Int)]) → Q (.ref p) H'
def spPut (CA CT : Addr) (g : Pst → List Nat → Nat → Ex' Pst) : Sp := fun vs H Q E => ∃ (x l1 l2 d : Addr) (st : Pst) (t : List Nat) (a : Nat), vs = [.ref x, .str (Tx t), .int (a : Int)] ∧ PsAt CA H x l1 l2 d st ∧ Few st ∧ t.length ≤ LL ∧
  Tells CT H (g st t a) E fun st' => ∀ H', Fr3 l1 l2 d H H' → PsAt CA H' x l1 l2 d st' → Q .non H'
def spPLin (CA CT : Addr) : Sp := fun vs H Q E => ∃ (x l1 l2 d : Addr) (st : Pst) (t : List Nat), vs = [.ref x, .str (Tx t)] ∧ PsAt CA H x l1 l2 d st ∧ Few st ∧ t.length ≤ LL ∧
  Tells CT H (pLine st t) E fun st' => ∀ H', Fr3 l1 l2 d H H' → PsAt CA H' x l1 l2 d st' → Q .non H'
theorem lit_eqs : ("=" : Str) = Tx [61] := by decide +kernel
section
variable {P : Program} {w : World} {K : PySem.W.Frag} {mg : Str → Option Value} {base : Heap} {CT CA CR CN NO : Addr}
abbrev sNewN : Stmt := inClass (topS 21) 2
theorem scNewN : FnScope ["self", "line", "at", "name", "end"] ["self", "line", "at"] (defScope sNewN) := ⟨rfl, rfl, rfl, by decide +kernel, rfl, by decide +kernel, by decide +kernel⟩
theorem ok_newn {f : Addr} {fd : FuncData} (F : Fun K "new_name" "Parsed.new_name" sNewN f fd) (m_NO_NAMES : mg "NO_NAMES" = some (.ref NO)) (hNO : ∀ H, SqT K H NO ([[120], tableW].map fun w => V.str (Tx w))) (PA_ : PaC K mg CA) (N_BadText : Ex P w K mg base "BadText" CT ["column"]) (G_read_name : Dn P w K mg base "read_name" 3 ["line", "at", "barred"] (spRName K CT)) : FnOk P w K mg base (L2N.CX P w) 4 f fd ["self", "line", "at"] (spNewN CA CT) := by
  refine okN F scNewN (fun vs H Q E h => ?_) (fun cdv A outer s H vs Q E hr h => ?_)
  · obtain ⟨x, l1, l2, d, st, t, a, rfl, _⟩ := h
    rfl
  · obtain ⟨x, l1, l2, d, st, t, a, rfl, hx, hl, q⟩ := h
    refine ⟨_, (pss_cons (ps_asg (pe_call G_read_name.ok (hr.mono (by decide)) rfl G_read_name.m G_read_name.kp G_read_name.b .nil (E := E) (L2N.passes_call (L2N.takes_of rfl rfl rfl rfl) (fun _ _ _ _ h => h)) (pa_cons (pv 1) (pa_cons (pv 2) (pa_cons (pe_glob (v := V.ref NO) rfl m_NO_NAMES rfl) pa_nil)))) (pg_tup (by rfl) (pgs_cons (pg_name (i := 3) scNewN.nd rfl (Or.inl rfl)) (pgs_cons (pg_name (i := 4) scNewN.nd rfl (Or.inl rfl)) pgs_nil))))
  (pss_cons (ps_if (pt_cmp (pc_din (hu1 hr.units) (pv 3) (pe_fld (pv 0) rfl)) (by rfl))
    (pss_one (L2N.ps_raise rfl (L2N.takes_of rfl rfl rfl rfl) (pmk_oexN N_BadText.ox N_BadText.iC N_BadText.tI N_BadText.ok (hr.mono (by decide)) N_BadText.b pass0 (by rfl) N_BadText.m (pa_cons (pe_op op_add (pv 2) pe_int) pa_nil))))
    pss_nil)
  (pss_one (ps_ret (pe_tup (pa_cons (pv 3) (pa_cons (pv 4) pa_nil))))))), ?_⟩
    refine ⟨_, rfl, _, rfl, t, a, NO, _, rfl, hl, hNO H, by decide, ?_⟩
    unfold pNew at q
    cases hn : pName t a [[120], tableW] with
    | error c => rw [hn] at q; exact q
    | ok r =>
      rw [hn] at q
      have q : Tells CT H (if (envGet st.env r.1).isSome then .error (a + 1) else .ok r) E fun r => ∀ (p : Addr) (H' : Hp), Same H H' → H' p = some (.tup [.str (Tx r.1), .int (r.2 : Int)]) → Q (.ref p) H' := q
      intro p H1 s1 e1
      have hx1 := hx.same s1
      obtain ⟨dx, ex⟩ := hx1.ins
      obtain ⟨kvs, ed, ek⟩ := hx1.env
      refine ⟨p, _, rfl, SqT.of e1, rfl, _, _, rfl, _, _, rfl, rfl, ?_⟩
      refine ⟨_, rfl, _, rfl, x, CA, dx, _, .ref d, rfl, ex, PA_.cl, PA_.nP, (by kernel_rfl), d, _, rfl, DGet.k (k := .inr (Tx r.1)) ed, _, rfl, ?_⟩
      have gt := ek.get r.1
      cases hg : envGet st.env r.1 with
      | none =>
        rw [hg] at gt q
        rw [show valV kvs (.inr (Tx r.1)) = none from gt]
        refine iteF ?_
        refine ⟨_, rfl, _, rfl, (by show 2 ≤ sizeLine; decide), fun p2 np2 => ?_⟩
        exact q p2 _ (s1.trans (same_upd np2)) upd_same
      | some pr =>
        rw [hg] at gt q
        obtain ⟨rr, g1, _⟩ := gt
        rw [g1]
        refine iteT ?_
        refine ⟨_, rfl, _, _, rfl, rfl, (by show 1 ≤ 1000; decide), ?_⟩
        exact raise_end rfl fun dd H' s n e => q.same s1 dd H' s n e
abbrev sPTab : Stmt := inClass (topS 21) 3
theorem scPTab : FnScope ["self", "line", "at", "name", "end", "numbers", "number"] ["self", "line", "at"] (defScope sPTab) := ⟨rfl, rfl, rfl, by decide +kernel, rfl, by decide +kernel, by decide +kernel⟩
theorem ok_ptab {f : Addr} {fd : FuncData} (F : Fun K "put_table" "Parsed.put_table" sPTab f fd) (T : Bk mg) (PA_ : PaC K mg CA) (G_need_space : Dn P w K mg base "need_space" 3 ["line", "at"] (spNSp CT)) (G_behind_spaces : Df P w K mg base "behind_spaces" 1 ["text", "at"] spBeh)
    (G_read_number : Dn P w K mg base "read_number" 4 ["line", "at"] (spRNum CT)) (M_new_name : Mx P w K mg base CA "new_name" 4 ["self", "line", "at"] (spNewN CA CT)) : FnOk P w K mg base (L2N.CX P w) 5 f fd ["self", "line", "at"] (spPut CA CT pTable) := by
  refine okN F scPTab (fun vs H Q E h => ?_) (fun cdv A outer s H vs Q E hr h => ?_)
  · obtain ⟨x, l1, l2, d, st, t, a, rfl, _⟩ := h
    rfl
  · obtain ⟨x, l1, l2, d, st, t, a, rfl, hx, few, hl, q⟩ := h
    refine ⟨_, (pss_cons (ps_asg (pe_meth (pv 0) PA_.cl M_new_name.m M_new_name.ok (hr.mono (by decide)) M_new_name.b .nil (E := E) (L2N.passes_call (L2N.takes_of rfl rfl rfl rfl) (fun _ _ _ _ h => h)) (pa_cons (pv 1) (pa_cons (pe_call G_need_space.ok (hr.mono (by decide)) rfl G_need_space.m G_need_space.kp G_need_space.b .nil (E := E) (L2N.passes_call (L2N.takes_of rfl rfl rfl rfl) (fun _ _ _ _ h => h)) (pa_cons (pv 1) (pa_cons (pv 2) pa_nil))) pa_nil))) (pg_tup (by rfl) (pgs_cons (pg_name (i := 3) scPTab.nd rfl (Or.inl rfl)) (pgs_cons (pg_name (i := 4) scPTab.nd rfl (Or.inl rfl)) pgs_nil))))
  (pss_cons (ps_set (i := 5) scPTab.nd rfl (Or.inl rfl) (pe_lst pa_nil))
  (C8.pss_cut (ps_while (passes_of rfl) (PW.pt (pw_or (pt_not (pt_truth (pv 5) (by intro _; rfl))) (pw_or1 (pt_cmpR op_lt (pe_call G_behind_spaces.ok (hr.mono (by decide)) rfl G_behind_spaces.m G_behind_spaces.kp G_behind_spaces.b .nil pass0 (pa_cons (pv 1) (pa_cons (pv 4) pa_nil))) (pe_callB call_len_str (by rfl) T.len (by decide +kernel) (pa_cons (pv 1) pa_nil)) (nomark _)))))
    (pss_cons (ps_asg (pe_call G_read_number.ok (hr.mono (by decide)) rfl G_read_number.m G_read_number.kp G_read_number.b .nil (E := E) (L2N.passes_call (L2N.takes_of rfl rfl rfl rfl) (fun _ _ _ _ h => h)) (pa_cons (pv 1) (pa_cons (pe_call G_need_space.ok (hr.mono (by decide)) rfl G_need_space.m G_need_space.kp G_need_space.b .nil (E := E) (L2N.passes_call (L2N.takes_of rfl rfl rfl rfl) (fun _ _ _ _ h => h)) (pa_cons (pv 1) (pa_cons (pv 4) pa_nil))) pa_nil))) (pg_tup (by rfl) (pgs_cons (pg_name (i := 6) scPTab.nd rfl (Or.inl rfl)) (pgs_cons (pg_name (i := 4) scPTab.nd rfl (Or.inl rfl)) pgs_nil))))
    (pss_one (ps_expr (pe_bm PySem.F.plainAttrs_list PySem.F.slot_list_append PySem.F.type_list_append mt_append (pv 5) (pa_cons (pv 6) pa_nil))))))
  (pss_cons (ps_dput (hu1 hr.units) (pe_fld (pv 0) rfl) (pv 3) (pe_tup (pa_cons pe_bl (pa_cons (pe_callB call_len_seq (by rfl) T.len (by decide +kernel) (pa_cons (pe_fld (pv 0) rfl) pa_nil)) pa_nil))) (by rfl))
  (pss_one (ps_expr (pe_bm PySem.F.plainAttrs_list PySem.F.slot_list_append PySem.F.type_list_append mt_append (pe_fld (pv 0) rfl) (pa_cons (pe_callTy call_tuple_of (by rfl) T.tuple (by decide +kernel) (pa_cons (pv 5) pa_nil)) pa_nil)))))))), ?_⟩
    obtain ⟨dx0, ex0⟩ := hx.ins
    refine ⟨_, rfl, x, dx0, _, rfl, ex0, (by kernel_rfl), _, rfl, _, rfl, _, rfl, t, a, rfl, hl, ?_⟩
    unfold pTable at q
    cases h1 : pSpace t a with
    | error c => rw [h1] at q; exact q
    | ok b =>
      rw [h1] at q
      have q : Tells CT H (match pNew st.env t b with
        | .error c => .error c
        | .ok r => match pNums t (t.length + 2) r.2 [] with
          | .error c => .error c
          | .ok ns => .ok { tabs := st.tabs ++ [ns], steps := st.steps, env := st.env ++ [(r.1, true, st.tabs.length)] }) E fun st' => ∀ H', Fr3 l1 l2 d H H' → PsAt CA H' x l1 l2 d st' → Q .non H' := q
      refine ⟨x, l1, l2, d, st, t, b, rfl, hx, hl, ?_⟩
      cases h2 : pNew st.env t b with
      | error c => rw [h2] at q; exact q
      | ok r =>
        rw [h2] at q
        have q : Tells CT H (match pNums t (t.length + 2) r.2 [] with
          | .error c => .error c
          | .ok ns => .ok { tabs := st.tabs ++ [ns], steps := st.steps, env := st.env ++ [(r.1, true, st.tabs.length)] }) E fun st' => ∀ H', Fr3 l1 l2 d H H' → PsAt CA H' x l1 l2 d st' → Q .non H' := q
        have rl : r.2 ≤ t.length := by
          unfold pNew at h2
          cases h3 : pName t b [[120], tableW] with
          | error c => rw [h3] at h2; cases h2
          | ok r' =>
            rw [h3] at h2
            have h2 : (if (envGet st.env r'.1).isSome then Except.error (b + 1) else .ok r') = (.ok r : Ex' _) := h2
            split at h2
            · cases h2
            · cases h2
              exact (name_ok h3).2
        intro p H1 s1 e1
        refine ⟨p, _, rfl, SqT.of e1, rfl, _, _, rfl, _, _, rfl, rfl, ?_⟩
        refine ⟨(by show 0 ≤ sizeLine; decide), fun ln nln => ?_⟩
        have eln : upd H1 ln (HO.lst []) ln = some (HO.lst []) := upd_same
        have s2 : Same H1 (upd H1 ln (HO.lst [])) := same_upd nln
        have lnH : H ln = none := s1.free nln
        generalize upd H1 ln (HO.lst []) = H2 at eln s2 ⊢
        have s12 := s1.trans s2
        -- the numbers
        refine ⟨fun σ H3 => ∃ (e : Nat) (ns : List Int) (v6 : Option V), σ = [some (.ref x), some (.str (Tx t)), some (.int (a : Int)), some (.str (Tx r.1)), some (.int (e : Int)), some (.ref ln), v6] ∧ Same H H3 ∧ H3 ln = some (.lst (ns.map V.int)) ∧ ns.length ≤ LL + 2 ∧ pNums t (t.length + 2) r.2 [] = .ok ns, ?_, ?_⟩
        · refine ⟨fun m σ H3 => ∃ (e : Nat) (ns : List Int) (v6 : Option V), σ = [some (.ref x), some (.str (Tx t)), some (.int (a : Int)), some (.str (Tx r.1)), some (.int (e : Int)), some (.ref ln), v6] ∧ Same H H3 ∧ H3 ln = some (.lst (ns.map V.int)) ∧ ns.length + m ≤ LL + 2 ∧ e ≤ t.length ∧ t.length + 2 ≤ m + e ∧ pNums t (t.length + 2) r.2 [] = pNums t m e ns,
            ⟨t.length + 2, r.2, [], none, rfl, s12, eln, by show 0 + _ ≤ _; omega, rl, by omega, rfl⟩, ?_⟩
          rintro m σ H3 ⟨e, ns, v6, rfl, s3, e3, nm, el, fu, ep⟩
          obtain ⟨m, rfl⟩ : ∃ m', m = m' + 1 := ⟨m - 1, by omega⟩
          have hb := beh_le t e
          by_cases hn : ns = []
          · have hc : ns = [] ∨ beh t e < t.length := .inl hn
            refine ⟨_, rfl, false, .inl ⟨_, SqL.of e3, by rw [hn]; rfl⟩, ?_⟩
            refine iteT ?_
            refine iteT ?_
            have stp : pNums t (m + 1) e ns = (match pSpace t e with
              | .error c => .error c
              | .ok b => match pNumber t b with
                | .error c => .error c
                | .ok r => pNums t m r.2 (ns ++ [r.1])) := by
              show (if ns = [] ∨ beh t e < t.length then _ else _) = _
              rw [if_pos hc]
            rw [stp] at ep
            refine ⟨fun σ' H' => ∃ (e' : Nat) (z : Int), σ' = [some (.ref x), some (.str (Tx t)), some (.int (a : Int)), some (.str (Tx r.1)), some (.int (e' : Int)), some (.ref ln), some (.int z)] ∧ Same H H' ∧ H' ln = some (.lst ((ns ++ [z]).map V.int)) ∧ e < e' ∧ e' ≤ t.length ∧ pNums t (t.length + 2) r.2 [] = pNums t m e' (ns ++ [z]), fun σ' H' ⟨e', z, h1, h2, h3, h4, h5, h6⟩ => ⟨m, by omega, e', ns ++ [z], some (.int z), h1, h2, h3, by rw [List.length_append]; show _ + 1 + _ ≤ _; omega, h5, by omega, h6⟩, ?_⟩
            refine ⟨_, rfl, _, rfl, _, rfl, t, e, rfl, hl, ?_⟩
            cases h3 : pSpace t e with
            | error c =>
              rw [h3] at ep
              rw [ep] at q
              exact q.same s3
            | ok b2 =>
              rw [h3] at ep
              have ep : pNums t (t.length + 2) r.2 [] = (match pNumber t b2 with
                | .error c => .error c
                | .ok r => pNums t m r.2 (ns ++ [r.1])) := ep
              have sp1 := space_ok h3
              refine ⟨t, b2, rfl, hl, ?_⟩
              cases h4 : pNumber t b2 with
              | error c =>
                rw [h4] at ep
                rw [ep] at q
                exact q.same s3
              | ok r2 =>
                rw [h4] at ep
                have np := number_ok h4
                intro p2 H4 s4 e4
                refine ⟨p2, _, rfl, SqT.of e4, rfl, _, _, rfl, _, _, rfl, rfl, ?_⟩
                have e3' := s4 _ _ e3
                refine ⟨_, rfl, .inl ⟨rfl, _, SqL.of e3'⟩, _, rfl, ln, _, _, rfl, rfl, e3', (by rw [List.length_map, sizeLine_eq]; unfold LL at nm; omega), ?_⟩
                refine ⟨r2.2, r2.1, rfl, fun c o ec => ?_, ?_, by omega, np.2, ep⟩
                · rw [upd_ne (ne_of_none ec lnH)]
                  exact s4 _ _ (s3 _ _ ec)
                · rw [upd_same, List.map_append]
                  rfl
          · refine ⟨_, rfl, true, .inl ⟨_, SqL.of e3, by simpa using hn⟩, ?_⟩
            refine iteF ?_
            refine ⟨_, rfl, _, rfl, t, e, rfl, hl, _, rfl, Tx t, rfl, big_line hl, ?_⟩
            refine ⟨_, _, rfl, rfl, _, rfl, ?_⟩
            rw [tx_len]
            by_cases hlt : beh t e < t.length
            · have hc : ns = [] ∨ beh t e < t.length := .inr hlt
              rw [decide_eq_true (by omega)]
              refine iteT ?_
              have stp : pNums t (m + 1) e ns = (match pSpace t e with
                | .error c => .error c
                | .ok b => match pNumber t b with
                  | .error c => .error c
                  | .ok r => pNums t m r.2 (ns ++ [r.1])) := by
                show (if ns = [] ∨ beh t e < t.length then _ else _) = _
                rw [if_pos hc]
              rw [stp] at ep
              refine ⟨fun σ' H' => ∃ (e' : Nat) (z : Int), σ' = [some (.ref x), some (.str (Tx t)), some (.int (a : Int)), some (.str (Tx r.1)), some (.int (e' : Int)), some (.ref ln), some (.int z)] ∧ Same H H' ∧ H' ln = some (.lst ((ns ++ [z]).map V.int)) ∧ e < e' ∧ e' ≤ t.length ∧ pNums t (t.length + 2) r.2 [] = pNums t m e' (ns ++ [z]), fun σ' H' ⟨e', z, h1, h2, h3, h4, h5, h6⟩ => ⟨m, by omega, e', ns ++ [z], some (.int z), h1, h2, h3, by rw [List.length_append]; show _ + 1 + _ ≤ _; omega, h5, by omega, h6⟩, ?_⟩
              refine ⟨_, rfl, _, rfl, _, rfl, t, e, rfl, hl, ?_⟩
              cases h3 : pSpace t e with
              | error c =>
                rw [h3] at ep
                rw [ep] at q
                exact q.same s3
              | ok b2 =>
                rw [h3] at ep
                have ep : pNums t (t.length + 2) r.2 [] = (match pNumber t b2 with
                  | .error c => .error c
                  | .ok r => pNums t m r.2 (ns ++ [r.1])) := ep
                have sp1 := space_ok h3
                refine ⟨t, b2, rfl, hl, ?_⟩
                cases h4 : pNumber t b2 with
                | error c =>
                  rw [h4] at ep
                  rw [ep] at q
                  exact q.same s3
                | ok r2 =>
                  rw [h4] at ep
                  have np := number_ok h4
                  intro p2 H4 s4 e4
                  refine ⟨p2, _, rfl, SqT.of e4, rfl, _, _, rfl, _, _, rfl, rfl, ?_⟩
                  have e3' := s4 _ _ e3
                  refine ⟨_, rfl, .inl ⟨rfl, _, SqL.of e3'⟩, _, rfl, ln, _, _, rfl, rfl, e3', (by rw [List.length_map, sizeLine_eq]; unfold LL at nm; omega), ?_⟩
                  refine ⟨r2.2, r2.1, rfl, fun c o ec => ?_, ?_, by omega, np.2, ep⟩
                  · rw [upd_ne (ne_of_none ec lnH)]
                    exact s4 _ _ (s3 _ _ ec)
                  · rw [upd_same, List.map_append]
                    rfl
            · rw [decide_eq_false (by omega)]
              refine iteF ?_
              refine ⟨e, ns, v6, rfl, s3, e3, by omega, ?_⟩
              rw [ep]
              show (if ns = [] ∨ beh t e < t.length then _ else _) = _
              rw [if_neg (fun z => z.elim hn hlt)]
        · rintro σ H3 ⟨e, ns, v6, rfl, s3, e3, nl, ep⟩
          rw [ep] at q
          have hx3 := hx.same s3
          obtain ⟨dx, ex⟩ := hx3.ins
          obtain ⟨trs, et1, et2⟩ := hx3.tabs
          obtain ⟨srs, es1, es2⟩ := hx3.steps
          obtain ⟨kvs, ed, ek⟩ := hx3.env
          have lt := et2.len
          -- the place of the table
          refine ⟨_, rfl, x, CA, dx, _, .ref l1, rfl, ex, PA_.cl, PA_.nT, (by kernel_rfl), l1, _, rfl, .inl (SqL.of et1), (by show 2 ≤ sizeLine; decide), fun tv ntv => ?_⟩
          rw [List.length_map, lt]
          have etv : upd H3 tv (HO.tup [V.bl true, V.int ((st.tabs.length : Nat) : Int)]) tv = some (HO.tup [V.bl true, V.int ((st.tabs.length : Nat) : Int)]) := upd_same
          have s4 : Same H3 (upd H3 tv (HO.tup [V.bl true, V.int ((st.tabs.length : Nat) : Int)])) := same_upd ntv
          generalize upd H3 tv (HO.tup [V.bl true, V.int ((st.tabs.length : Nat) : Int)]) = H4 at etv s4 ⊢
          have ed4 := s4 _ _ ed
          have ex4 := s4 _ _ ex
          have hg : envGet st.env r.1 = none := by
            unfold pNew at h2
            cases h3 : pName t b [[120], tableW] with
            | error c => rw [h3] at h2; cases h2
            | ok r' =>
              rw [h3] at h2
              have h2 : (if (envGet st.env r'.1).isSome then Except.error (b + 1) else .ok r') = (.ok r : Ex' _) := h2
              split at h2
              · cases h2
              · next hs =>
                cases h2
                cases hh : envGet st.env r.1 with
                | none => rfl
                | some y => rw [hh] at hs; exact absurd rfl hs
          have gv : valV kvs (.inr (Tx r.1)) = none := by have := ek.get r.1; rw [hg] at this; exact this
          have kl := ek.len
          obtain ⟨f1, f2, f3⟩ := few
          refine ⟨_, rfl, x, CA, dx, _, .ref d, rfl, ex4, PA_.cl, PA_.nP, (by kernel_rfl), _, rfl, d, _, rfl, DPut.k (k := .inr (Tx r.1)) ed4 (by rw [sizeLine_eq]; unfold LL at f3; omega), ?_⟩
          rw [putK_new _ gv]
          have dx1 : d ≠ x := ne_of ed4 ex4 (by intro z; cases z)
          have d1 : d ≠ l1 := ne_of ed4 (s4 _ _ et1) (by intro z; cases z)
          have d2 : d ≠ l2 := ne_of ed4 (s4 _ _ es1) (by intro z; cases z)
          have dn : d ≠ ln := ne_of ed4 (s4 _ _ e3) (by intro z; cases z)
          have u5 : ∀ {b : Addr} {o : HO}, b ≠ d → H4 b = some o → upd H4 d (HO.dK (kvs ++ [(.inr (Tx r.1), V.ref tv)])) b = some o := fun n e => by rw [upd_ne n]; exact e
          have ed5 : upd H4 d (HO.dK (kvs ++ [(.inr (Tx r.1), V.ref tv)])) d = some (HO.dK (kvs ++ [(.inr (Tx r.1), V.ref tv)])) := upd_same
          have ex5 := u5 dx1.symm ex4
          have et5 := u5 d1.symm (s4 _ _ et1)
          have es5 := u5 d2.symm (s4 _ _ es1)
          have en5 := u5 dn.symm (s4 _ _ e3)
          have tu5 : TupS H4 (upd H4 d (HO.dK (kvs ++ [(.inr (Tx r.1), V.ref tv)]))) := fun b xs z => u5 (ne_of z ed4 (by intro z; cases z)) z
          have etv5 := tu5 _ _ etv
          generalize upd H4 d (HO.dK (kvs ++ [(.inr (Tx r.1), V.ref tv)])) = H5 at ed5 ex5 et5 es5 en5 tu5 etv5 u5 ⊢
          refine ⟨_, rfl, x, CA, dx, _, .ref l1, rfl, ex5, PA_.cl, PA_.nT, (by kernel_rfl), .inl ⟨rfl, _, SqL.of et5⟩, _, rfl, ln, _, rfl, .inl ⟨SqL.of en5, fun tq ntq => ?_⟩⟩
          have s6 := same_upd (o := HO.tup (ns.map V.int)) ntq
          have etq : upd H5 tq (HO.tup (ns.map V.int)) tq = some (HO.tup (ns.map V.int)) := upd_same
          generalize upd H5 tq (HO.tup (ns.map V.int)) = H6 at s6 etq ⊢
          have et6 := s6 _ _ et5
          refine ⟨l1, _, _, rfl, rfl, et6, (by rw [List.length_map, lt, sizeLine_eq]; unfold LL at f1; omega), ?_⟩
          have x1 : x ≠ l1 := ne_of ex5 et5 (by intro z; cases z)
          have tu7 : TupS H6 (upd H6 l1 (HO.lst (trs.map V.ref ++ [V.ref tq]))) := fun b xs z => by rw [upd_ne (ne_of z et6 (by intro z; cases z))]; exact z
          have tu37 : TupS H3 (upd H6 l1 (HO.lst (trs.map V.ref ++ [V.ref tq]))) := fun b xs z => tu7 _ _ (s6 _ _ (tu5 _ _ (s4 _ _ z)))
          refine q _ (fun c o n1 n2 n3 e => ?_) ⟨⟨dx, ?_⟩, hx.ne, ⟨trs ++ [tq], ?_, (et2.imp fun r x z => tu37 _ _ z).snoc (tu7 _ _ etq)⟩, ⟨srs, ?_, es2.imp fun r x z => z.up tu37⟩, ⟨_, ?_, (ek.up tu37).snoc (tu7 _ _ (s6 _ _ etv5))⟩⟩
          · rw [upd_ne n1]
            exact s6 _ _ (u5 n3 (s4 _ _ (s3 _ _ e)))
          · rw [upd_ne x1]
            exact s6 _ _ ex5
          · rw [upd_same, List.map_append]
            rfl
          · rw [upd_ne hx.ne.symm]
            exact s6 _ _ es5
          · rw [upd_ne d1]
            exact s6 _ _ ed5
abbrev sPStp : Stmt := inClass (topS 21) 4
theorem scPStp : FnScope ["self", "line", "at", "name", "end", "step"] ["self", "line", "at"] (defScope sPStp) := ⟨rfl, rfl, rfl, by decide +kernel, rfl, by decide +kernel, by decide +kernel⟩
theorem ok_pstp {f : Addr} {fd : FuncData} (F : Fun K "put_step" "Parsed.put_step" sPStp f fd) (T : Bk mg) (PA_ : PaC K mg CA) (N_BadText : Ex P w K mg base "BadText" CT ["column"]) (G_need_sign : Dn P w K mg base "need_sign" 3 ["line", "at", "sign"] (spNSg CT)) (G_behind_spaces : Df P w K mg base "behind_spaces" 1 ["text", "at"] spBeh)
    (M_new_name : Mx P w K mg base CA "new_name" 4 ["self", "line", "at"] (spNewN CA CT)) (M_read_value : Mx P w K mg base CA "read_value" 6 ["self", "line", "at"] (spRVal CA CT)) : FnOk P w K mg base (L2N.CX P w) 7 f fd ["self", "line", "at"] (spPut CA CT pStep) := by
  refine okN F scPStp (fun vs H Q E h => ?_) (fun cdv A outer s H vs Q E hr h => ?_)
  · obtain ⟨x, l1, l2, d, st, t, a, rfl, _⟩ := h
    rfl
  · obtain ⟨x, l1, l2, d, st, t, a, rfl, hx, few, hl, q⟩ := h
    refine ⟨_, (pss_cons (ps_asg (pe_meth (pv 0) PA_.cl M_new_name.m M_new_name.ok (hr.mono (by decide)) M_new_name.b .nil (E := E) (L2N.passes_call (L2N.takes_of rfl rfl rfl rfl) (fun _ _ _ _ h => h)) (pa_cons (pv 1) (pa_cons (pv 2) pa_nil))) (pg_tup (by rfl) (pgs_cons (pg_name (i := 3) scPStp.nd rfl (Or.inl rfl)) (pgs_cons (pg_name (i := 4) scPStp.nd rfl (Or.inl rfl)) pgs_nil))))
  (pss_cons (ps_asg (pe_meth (pv 0) PA_.cl M_read_value.m M_read_value.ok (hr.mono (by decide)) M_read_value.b .nil (E := E) (L2N.passes_call (L2N.takes_of rfl rfl rfl rfl) (fun _ _ _ _ h => h)) (pa_cons (pv 1) (pa_cons (pe_call G_need_sign.ok (hr.mono (by decide)) rfl G_need_sign.m G_need_sign.kp G_need_sign.b .nil (E := E) (L2N.passes_call (L2N.takes_of rfl rfl rfl rfl) (fun _ _ _ _ h => h)) (pa_cons (pv 1) (pa_cons (pv 4) (pa_cons pe_str pa_nil)))) pa_nil))) (pg_tup (by rfl) (pgs_cons (pg_name (i := 5) scPStp.nd rfl (Or.inl rfl)) (pgs_cons (pg_name (i := 4) scPStp.nd rfl (Or.inl rfl)) pgs_nil))))
  (pss_cons (ps_set (i := 4) scPStp.nd rfl (Or.inl rfl) (pe_call G_behind_spaces.ok (hr.mono (by decide)) rfl G_behind_spaces.m G_behind_spaces.kp G_behind_spaces.b .nil pass0 (pa_cons (pv 1) (pa_cons (pv 4) pa_nil))))
  (pss_cons (ps_if (pt_cmpR op_lt (pv 4) (pe_callB call_len_str (by rfl) T.len (by decide +kernel) (pa_cons (pv 1) pa_nil)) (nomark _))
    (pss_one (L2N.ps_raise rfl (L2N.takes_of rfl rfl rfl rfl) (pmk_oexN N_BadText.ox N_BadText.iC N_BadText.tI N_BadText.ok (hr.mono (by decide)) N_BadText.b pass0 (by rfl) N_BadText.m (pa_cons (pe_op op_add (pv 4) pe_int) pa_nil))))
    pss_nil)
  (pss_cons (ps_dput (hu1 hr.units) (pe_fld (pv 0) rfl) (pv 3) (pe_tup (pa_cons pe_bl (pa_cons (pe_op op_add (pe_callB call_len_seq (by rfl) T.len (by decide +kernel) (pa_cons (pe_fld (pv 0) rfl) pa_nil)) pe_int) pa_nil))) (by rfl))
  (pss_one (ps_expr (pe_bm PySem.F.plainAttrs_list PySem.F.slot_list_append PySem.F.type_list_append mt_append (pe_fld (pv 0) rfl) (pa_cons (pe_tup (pa_cons (pv 3) (StX.pa_star (pv 5) pa_nil))) pa_nil))))))))), ?_⟩
    obtain ⟨dx0, ex0⟩ := hx.ins
    refine ⟨_, rfl, x, dx0, _, rfl, ex0, (by kernel_rfl), _, rfl, _, rfl, ?_⟩
    refine ⟨x, l1, l2, d, st, t, a, rfl, hx, hl, ?_⟩
    unfold pStep at q
    cases h2 : pNew st.env t a with
    | error c => rw [h2] at q; exact q
    | ok r =>
      rw [h2] at q
      have q : Tells CT H (match pSign t r.2 61 with
        | .error c => .error c
        | .ok b => match pValue st.env t b with
          | .error c => .error c
          | .ok v => if beh t v.2 < t.length then .error (beh t v.2 + 1)
            else .ok { tabs := st.tabs, steps := st.steps ++ [⟨r.1, v.1.1, v.1.2.1, v.1.2.2⟩], env := st.env ++ [(r.1, false, st.steps.length + 1)] }) E fun st' => ∀ H', Fr3 l1 l2 d H H' → PsAt CA H' x l1 l2 d st' → Q .non H' := q
      intro p H1 s1 e1
      refine ⟨p, _, rfl, SqT.of e1, rfl, _, _, rfl, _, _, rfl, rfl, ?_⟩
      have ex1 := s1 _ _ ex0
      refine ⟨_, rfl, x, dx0, _, rfl, ex1, (by kernel_rfl), _, rfl, _, rfl, _, rfl, t, r.2, 61, (by rw [← lit_eqs]; rfl), hl, ?_⟩
      cases h3 : pSign t r.2 61 with
      | error c => rw [h3] at q; exact q.same s1
      | ok b =>
        rw [h3] at q
        have q : Tells CT H (match pValue st.env t b with
          | .error c => .error c
          | .ok v => if beh t v.2 < t.length then .error (beh t v.2 + 1)
            else .ok { tabs := st.tabs, steps := st.steps ++ [⟨r.1, v.1.1, v.1.2.1, v.1.2.2⟩], env := st.env ++ [(r.1, false, st.steps.length + 1)] }) E fun st' => ∀ H', Fr3 l1 l2 d H H' → PsAt CA H' x l1 l2 d st' → Q .non H' := q
        refine ⟨x, l1, l2, d, st, t, b, rfl, hx.same s1, hl, ?_⟩
        cases h4 : pValue st.env t b with
        | error c => rw [h4] at q; exact q.same s1
        | ok v =>
          rw [h4] at q
          have q : Tells CT H (if beh t v.2 < t.length then .error (beh t v.2 + 1)
            else .ok { tabs := st.tabs, steps := st.steps ++ [⟨r.1, v.1.1, v.1.2.1, v.1.2.2⟩], env := st.env ++ [(r.1, false, st.steps.length + 1)] }) E fun st' => ∀ H', Fr3 l1 l2 d H H' → PsAt CA H' x l1 l2 d st' → Q .non H' := q
          intro p2 rv H2 s2 e2 hv
          refine ⟨p2, _, rfl, SqT.of e2, rfl, _, _, rfl, _, _, rfl, rfl, ?_⟩
          refine ⟨_, rfl, _, rfl, t, v.2, rfl, hl, ?_⟩
          refine ⟨_, rfl, _, rfl, Tx t, rfl, big_line hl, ?_⟩
          refine ⟨_, _, rfl, rfl, _, rfl, ?_⟩
          rw [tx_len]
          have s02 := s1.trans s2
          by_cases hlt : beh t v.2 < t.length
          · rw [if_pos hlt] at q
            rw [decide_eq_true (by omega)]
            refine iteT ?_
            refine ⟨_, rfl, _, _, rfl, rfl, (by show 1 ≤ 1000; decide), ?_⟩
            exact raise_end rfl fun dd H' s n e => q.same s02 dd H' s n e
          · rw [if_neg hlt] at q
            rw [decide_eq_false (by omega)]
            refine iteF ?_
            have hx3 := hx.same s02
            obtain ⟨dx, ex⟩ := hx3.ins
            obtain ⟨trs, et1, et2⟩ := hx3.tabs
            obtain ⟨srs, es1, es2⟩ := hx3.steps
            obtain ⟨kvs, ed, ek⟩ := hx3.env
            obtain ⟨ra, vo, ev1, ev2, ev3⟩ := hv
            have lt := es2.len
            refine ⟨_, rfl, x, CA, dx, _, .ref l2, rfl, ex, PA_.cl, PA_.nS, (by kernel_rfl), l2, _, rfl, .inl (SqL.of es1), _, _, rfl, rfl, (by show 2 ≤ sizeLine; decide), fun tv ntv => ?_⟩
            rw [List.length_map, lt]
            have etv : upd H2 tv (HO.tup [V.bl false, V.int ((st.steps.length : Nat) + 1 : Int)]) tv = some (HO.tup [V.bl false, V.int ((st.steps.length + 1 : Nat) : Int)]) := upd_same
            have s4 : Same H2 (upd H2 tv (HO.tup [V.bl false, V.int ((st.steps.length : Nat) + 1 : Int)])) := same_upd ntv
            generalize upd H2 tv (HO.tup [V.bl false, V.int ((st.steps.length : Nat) + 1 : Int)]) = H4 at etv s4 ⊢
            have ed4 := s4 _ _ ed
            have ex4 := s4 _ _ ex
            have hg : envGet st.env r.1 = none := by
              unfold pNew at h2
              cases h3 : pName t a [[120], tableW] with
              | error c => rw [h3] at h2; cases h2
              | ok r' =>
                rw [h3] at h2
                have h2 : (if (envGet st.env r'.1).isSome then Except.error (a + 1) else .ok r') = (.ok r : Ex' _) := h2
                split at h2
                · cases h2
                · next hs =>
                  cases h2
                  cases hh : envGet st.env r.1 with
                  | none => rfl
                  | some y => rw [hh] at hs; exact absurd rfl hs
            have gv : valV kvs (.inr (Tx r.1)) = none := by have := ek.get r.1; rw [hg] at this; exact this
            have kl := ek.len
            obtain ⟨f1, f2, f3⟩ := few
            refine ⟨_, rfl, x, CA, dx, _, .ref d, rfl, ex4, PA_.cl, PA_.nP, (by kernel_rfl), _, rfl, d, _, rfl, DPut.k (k := .inr (Tx r.1)) ed4 (by rw [sizeLine_eq]; unfold LL at f3; omega), ?_⟩
            rw [putK_new _ gv]
            have dx1 : d ≠ x := ne_of ed4 ex4 (by intro z; cases z)
            have d1 : d ≠ l1 := ne_of ed4 (s4 _ _ et1) (by intro z; cases z)
            have d2 : d ≠ l2 := ne_of ed4 (s4 _ _ es1) (by intro z; cases z)
            have u5 : ∀ {b : Addr} {o : HO}, b ≠ d → H4 b = some o → upd H4 d (HO.dK (kvs ++ [(.inr (Tx r.1), V.ref tv)])) b = some o := fun n e => by rw [upd_ne n]; exact e
            have ed5 : upd H4 d (HO.dK (kvs ++ [(.inr (Tx r.1), V.ref tv)])) d = some (HO.dK (kvs ++ [(.inr (Tx r.1), V.ref tv)])) := upd_same
            have ex5 := u5 dx1.symm ex4
            have et5 := u5 d1.symm (s4 _ _ et1)
            have es5 := u5 d2.symm (s4 _ _ es1)
            have tu5 : TupS H4 (upd H4 d (HO.dK (kvs ++ [(.inr (Tx r.1), V.ref tv)]))) := fun b xs z => u5 (ne_of z ed4 (by intro z; cases z)) z
            have etv5 := tu5 _ _ etv
            have ev5 := tu5 _ _ (s4 _ _ ev1)
            generalize upd H4 d (HO.dK (kvs ++ [(.inr (Tx r.1), V.ref tv)])) = H5 at ed5 ex5 et5 es5 tu5 etv5 ev5 u5 ⊢
            refine ⟨_, rfl, x, CA, dx, _, .ref l2, rfl, ex5, PA_.cl, PA_.nS, (by kernel_rfl), .inl ⟨rfl, _, SqL.of es5⟩, _, rfl, _, rfl, rv, _, rfl, .inl (SqT.of ev5), (by show 4 ≤ sizeLine; decide), fun tq ntq => ?_⟩
            rw [show V.str (Tx r.1) :: ([V.str (Tx v.1.1), V.ref ra, vo] ++ []) = [V.str (Tx r.1), V.str (Tx v.1.1), V.ref ra, vo] from rfl]
            have s6 := same_upd (o := HO.tup [V.str (Tx r.1), V.str (Tx v.1.1), V.ref ra, vo]) ntq
            have etq : upd H5 tq (HO.tup [V.str (Tx r.1), V.str (Tx v.1.1), V.ref ra, vo]) tq = some (HO.tup [V.str (Tx r.1), V.str (Tx v.1.1), V.ref ra, vo]) := upd_same
            generalize upd H5 tq (HO.tup [V.str (Tx r.1), V.str (Tx v.1.1), V.ref ra, vo]) = H6 at s6 etq ⊢
            have es6 := s6 _ _ es5
            refine ⟨l2, _, _, rfl, rfl, es6, (by rw [List.length_map, lt, sizeLine_eq]; unfold LL at f2; omega), ?_⟩
            have x1 : x ≠ l2 := ne_of ex5 es5 (by intro z; cases z)
            have tu7 : TupS H6 (upd H6 l2 (HO.lst (srs.map V.ref ++ [V.ref tq]))) := fun b xs z => by rw [upd_ne (ne_of z es6 (by intro z; cases z))]; exact z
            have tu27 : TupS H2 (upd H6 l2 (HO.lst (srs.map V.ref ++ [V.ref tq]))) := fun b xs z => tu7 _ _ (s6 _ _ (tu5 _ _ (s4 _ _ z)))
            refine q _ (fun c o n1 n2 n3 e => ?_) ⟨⟨dx, ?_⟩, hx.ne, ⟨trs, ?_, et2.imp fun r x z => tu27 _ _ z⟩, ⟨srs ++ [tq], ?_, (es2.imp fun r x z => z.up tu27).snoc ⟨ra, vo, tu7 _ _ etq, ev2.up tu27, ev3.up tu27⟩⟩, ⟨_, ?_, (ek.up tu27).snoc (tu7 _ _ (s6 _ _ etv5))⟩⟩
            · rw [upd_ne n2]
              exact s6 _ _ (u5 n3 (s4 _ _ (s02 _ _ e)))
            · rw [upd_ne x1]
              exact s6 _ _ ex5
            · rw [upd_ne hx.ne]
              exact s6 _ _ et5
            · rw [upd_same, List.map_append]
              rfl
            · rw [upd_ne d2]
              exact s6 _ _ ed5
abbrev sPLin : Stmt := inClass (topS 21) 1
theorem scPLin : FnScope ["self", "line", "at"] ["self", "line"] (defScope sPLin) := ⟨rfl, rfl, rfl, by decide +kernel, rfl, by decide +kernel, by decide +kernel⟩
theorem lit_table : ("table" : Str) = Tx tableW := by decide +kernel
theorem ok_plin {f : Addr} {fd : FuncData} (F : Fun K "put_line" "Parsed.put_line" sPLin f fd) (T : Bk mg) (PA_ : PaC K mg CA) (G_behind_spaces : Df P w K mg base "behind_spaces" 1 ["text", "at"] spBeh) (G_is_word : Df P w K mg base "is_word" 2 ["line", "at", "word"] spIsW)
    (M_put_table : Mx P w K mg base CA "put_table" 5 ["self", "line", "at"] (spPut CA CT pTable)) (M_put_step : Mx P w K mg base CA "put_step" 7 ["self", "line", "at"] (spPut CA CT pStep)) : FnOk P w K mg base (L2N.CX P w) 8 f fd ["self", "line"] (spPLin CA CT) := by
  refine okN F scPLin (fun vs H Q E h => ?_) (fun cdv A outer s H vs Q E hr h => ?_)
  · obtain ⟨x, l1, l2, d, st, t, rfl, _⟩ := h
    rfl
  · obtain ⟨x, l1, l2, d, st, t, rfl, hx, few, hl, q⟩ := h
    refine ⟨_, (pss_cons (ps_set (i := 2) scPLin.nd rfl (Or.inl rfl) (pe_call G_behind_spaces.ok (hr.mono (by decide)) rfl G_behind_spaces.m G_behind_spaces.kp G_behind_spaces.b .nil pass0 (pa_cons (pv 1) (pa_cons pe_int pa_nil))))
  (pss_cons (ps_if (pt_cmpR op_eq (pv 2) (pe_callB call_len_str (by rfl) T.len (by decide +kernel) (pa_cons (pv 1) pa_nil)) (nomark _))
    (pss_one ps_retN)
    pss_nil)
  (pss_one (ps_if (PW.pt (pw_and (pt_not (pt_truth (pe_fld (pv 0) rfl) (by intro _; rfl))) (pw_and1 (pt_val (pe_call G_is_word.ok (hr.mono (by decide)) rfl G_is_word.m G_is_word.kp G_is_word.b .nil pass0 (pa_cons (pv 1) (pa_cons (pv 2) (pa_cons pe_str pa_nil))))))))
    (pss_one (ps_expr (pe_meth (pv 0) PA_.cl M_put_table.m M_put_table.ok (hr.mono (by decide)) M_put_table.b .nil (E := E) (L2N.passes_call (L2N.takes_of rfl rfl rfl rfl) (fun _ _ _ _ h => h)) (pa_cons (pv 1) (pa_cons (pe_op op_add (pv 2) (pe_callB call_len_str (by rfl) T.len (by decide +kernel) (pa_cons pe_str pa_nil))) pa_nil)))))
    (pss_one (ps_expr (pe_meth (pv 0) PA_.cl M_put_step.m M_put_step.ok (hr.mono (by decide)) M_put_step.b .nil (E := E) (L2N.passes_call (L2N.takes_of rfl rfl rfl rfl) (fun _ _ _ _ h => h)) (pa_cons (pv 1) (pa_cons (pv 2) pa_nil))))))))), ?_⟩
    obtain ⟨dx, ex⟩ := hx.ins
    obtain ⟨srs, es1, es2⟩ := hx.steps
    unfold pLine at q
    refine ⟨_, rfl, t, 0, rfl, hl, ?_⟩
    refine ⟨_, rfl, _, rfl, Tx t, rfl, big_line hl, rfl, _, rfl, ?_⟩
    rw [tx_len]
    by_cases h0 : beh t 0 = t.length
    · rw [if_pos h0] at q
      rw [decide_eq_true (by rw [h0])]
      refine iteT ?_
      exact q H (fun b o _ _ _ e => e) hx
    · rw [if_neg h0] at q
      rw [decide_eq_false (fun z => h0 (by have := V.int.inj z; omega))]
      refine iteF ?_
      have step : ¬ (st.steps = [] ∧ cutT t (beh t 0) (rEnd t (beh t 0)) = tableW) → Tells CT H (pStep st t (beh t 0)) E fun st' => ∀ H', Fr3 l1 l2 d H H' → PsAt CA H' x l1 l2 d st' → Q .non H' := fun n => by rw [if_neg n] at q; exact q
      have lt := es2.len
      by_cases hs : st.steps = []
      · have sr : srs = [] := List.length_eq_zero_iff.mp (by rw [lt, hs]; rfl)
        refine ⟨_, rfl, x, CA, dx, _, .ref l2, rfl, ex, PA_.cl, PA_.nS, (by kernel_rfl), false, .inl ⟨_, SqL.of es1, by rw [sr]; rfl⟩, ?_⟩
        refine iteT ?_
        refine ⟨_, rfl, _, rfl, t, tableW, beh t 0, (by rw [← lit_table]; rfl), hl, ?_⟩
        by_cases hw : cutT t (beh t 0) (rEnd t (beh t 0)) = tableW
        · rw [if_pos ⟨hs, hw⟩] at q
          rw [decide_eq_true hw]
          refine ⟨true, rfl, ?_⟩
          refine iteT ?_
          refine ⟨_, rfl, x, dx, _, rfl, ex, (by kernel_rfl), _, rfl, _, rfl, Tx tableW, (by rw [← lit_table]), (by rw [tx_len, sizeLine_eq]; decide), _, _, rfl, rfl, ?_⟩
          refine ⟨x, l1, l2, d, st, t, beh t 0 + 5, rfl, hx, few, hl, ?_⟩
          exact q
        · rw [decide_eq_false hw]
          refine ⟨false, rfl, ?_⟩
          refine iteF ?_
          have q := step (fun z => hw z.2)
          refine ⟨_, rfl, x, dx, _, rfl, ex, (by kernel_rfl), _, rfl, _, rfl, ?_⟩
          refine ⟨x, l1, l2, d, st, t, beh t 0, rfl, hx, few, hl, ?_⟩
          exact q
      · refine ⟨_, rfl, x, CA, dx, _, .ref l2, rfl, ex, PA_.cl, PA_.nS, (by kernel_rfl), true, .inl ⟨_, SqL.of es1, by cases srs with | nil => exact absurd (List.length_eq_zero_iff.mp (by rw [← lt]; rfl)) hs | cons a b => rfl⟩, ?_⟩
        refine iteF ?_
        refine iteF ?_
        have q := step (fun z => hs z.1)
        refine ⟨_, rfl, x, dx, _, rfl, ex, (by kernel_rfl), _, rfl, _, rfl, ?_⟩
        refine ⟨x, l1, l2, d, st, t, beh t 0, rfl, hx, few, hl, ?_⟩
        exact q
abbrev sPsI : Stmt := inClass (topS 21) 0
theorem scPsI : FnScope ["self"] ["self"] (defScope sPsI) := ⟨rfl, rfl, rfl, by decide +kernel, rfl, by decide +kernel, by decide +kernel⟩
def spPsI (CA : Addr) : Sp := fun vs H Q _ => ∃ (x dx : Addr), vs = [.ref x] ∧ H x = some (.ins CA dx []) ∧ ∀ (l1 l2 d : Addr) (H' : Hp), (∀ b o, b ≠ x → H b = some o → H' b = some o) → PsAt CA H' x l1 l2 d ⟨[], [], [([120], false, 0)]⟩ → H l1 = none → H l2 = none → H d = none → Q .non H'
theorem ok_psi {f : Addr} {fd : FuncData} (F : Fun K "__init__" "Parsed.__init__" sPsI f fd) (PA_ : PaC K mg CA) : FnOk P w K mg base CX0 1 f fd ["self"] (spPsI CA) := by
  refine F.ok scPsI (fun vs H Q E h => ?_) (fun cdv A outer s H vs Q E hr h => ?_)
  · obtain ⟨x, dx, rfl, _⟩ := h
    rfl
  · obtain ⟨x, dx, rfl, hx, q⟩ := h
    refine ⟨_, (pss_cons (ps_fld (pv 0) (pe_lst pa_nil) rfl)
  (pss_cons (ps_fld (pv 0) (pe_lst pa_nil) rfl)
  (pss_one (ps_fld (pv 0) (pe_disp (pps_cons pe_str (pe_tup (pa_cons pe_bl (pa_cons pe_int pa_nil))) pps_nil) (by rfl) (by rfl) (fun z => by cases z) (by decide)) rfl)))), ?_⟩
    refine ⟨(by show 0 ≤ sizeLine; decide), fun l1 n1 => ?_⟩
    have e1 : upd H l1 (HO.lst []) l1 = some (HO.lst []) := upd_same
    have s1 : Same H (upd H l1 (HO.lst [])) := same_upd n1
    generalize upd H l1 (HO.lst []) = H1 at e1 s1 ⊢
    have hx1 := s1 _ _ hx
    have x1 : x ≠ l1 := ne_of_none hx n1
    refine ⟨_, rfl, x, CA, dx, [], rfl, hx1, PA_.cl, PA_.nT, (by show 0 < 1000; decide), ?_⟩
    have hp1 : putF "tables" (V.ref l1) [] = [(("tables" : Str), V.ref l1)] := rfl
    rw [hp1]
    have g1 : upd H1 x (HO.ins CA dx [("tables", V.ref l1)]) x = some (HO.ins CA dx [("tables", V.ref l1)]) := upd_same
    have k1 : ∀ b o, b ≠ x → H b = some o → upd H1 x (HO.ins CA dx [("tables", V.ref l1)]) b = some o := fun b o n e => by rw [upd_ne n]; exact s1 _ _ e
    have f1 : upd H1 x (HO.ins CA dx [("tables", V.ref l1)]) l1 = some (HO.lst []) := by rw [upd_ne x1.symm]; exact e1
    generalize upd H1 x (HO.ins CA dx [("tables", V.ref l1)]) = G1 at g1 k1 f1 ⊢
    refine ⟨(by show 0 ≤ sizeLine; decide), fun l2 n2 => ?_⟩
    have e2 : upd G1 l2 (HO.lst []) l2 = some (HO.lst []) := upd_same
    have s2 : Same G1 (upd G1 l2 (HO.lst [])) := same_upd n2
    have l12 : l1 ≠ l2 := ne_of_none f1 n2
    have x2 : x ≠ l2 := ne_of_none g1 n2
    generalize upd G1 l2 (HO.lst []) = H2 at e2 s2 ⊢
    refine ⟨_, rfl, x, CA, dx, _, rfl, s2 _ _ g1, PA_.cl, PA_.nS, (by show 1 < 1000; decide), ?_⟩
    have hp2 : putF "steps" (V.ref l2) [(("tables" : Str), V.ref l1)] = [(("tables" : Str), V.ref l1), ("steps", V.ref l2)] := by show (if ("tables" : Str) = "steps" then _ else _) = _; rw [if_neg (by decide +kernel)]; rfl
    rw [hp2]
    have g2 : upd H2 x (HO.ins CA dx [("tables", V.ref l1), ("steps", V.ref l2)]) x = some (HO.ins CA dx [("tables", V.ref l1), ("steps", V.ref l2)]) := upd_same
    have k2 : ∀ b o, b ≠ x → H b = some o → upd H2 x (HO.ins CA dx [("tables", V.ref l1), ("steps", V.ref l2)]) b = some o := fun b o n e => by rw [upd_ne n]; exact s2 _ _ (k1 _ _ n e)
    have f2 : upd H2 x (HO.ins CA dx [("tables", V.ref l1), ("steps", V.ref l2)]) l1 = some (HO.lst []) := by rw [upd_ne x1.symm]; exact s2 _ _ f1
    have f3 : upd H2 x (HO.ins CA dx [("tables", V.ref l1), ("steps", V.ref l2)]) l2 = some (HO.lst []) := by rw [upd_ne x2.symm]; exact e2
    generalize upd H2 x (HO.ins CA dx [("tables", V.ref l1), ("steps", V.ref l2)]) = G2 at g2 k2 f2 f3 ⊢
    refine fun d nd => ⟨(by show 2 ≤ sizeLine; decide), fun tv ntv => ?_⟩
    have dv : d ≠ tv := ne_of_none upd_same ntv
    have ed : upd (upd G2 d (HO.dK [])) tv (HO.tup [V.bl false, V.int 0]) d = some (HO.dK []) := by rw [upd_ne dv]; exact upd_same
    have ev : upd (upd G2 d (HO.dK [])) tv (HO.tup [V.bl false, V.int 0]) tv = some (HO.tup [V.bl false, V.int 0]) := upd_same
    have s3 : Same G2 (upd (upd G2 d (HO.dK [])) tv (HO.tup [V.bl false, V.int 0])) := (same_upd nd).trans (same_upd ntv)
    generalize upd (upd G2 d (HO.dK [])) tv (HO.tup [V.bl false, V.int 0]) = H3 at ed ev s3 ⊢
    refine ⟨ed, [(.inr "x", .ref tv)], rfl, (by show 1 ≤ 15; decide), ?_⟩
    have em : mergeK [] [((.inr "x" : Key), V.ref tv)] = [(.inr (Tx [120]), V.ref tv)] := by rw [lit_x]; rfl
    rw [em]
    have dx_ : d ≠ x := fun z => by rw [z, g2] at nd; cases nd
    have dl1 : d ≠ l1 := fun z => by rw [z, f2] at nd; cases nd
    have dl2 : d ≠ l2 := fun z => by rw [z, f3] at nd; cases nd
    have u : ∀ {b : Addr} {o : HO}, b ≠ d → H3 b = some o → upd H3 d (HO.dK [(.inr (Tx [120]), V.ref tv)]) b = some o := fun n e => by rw [upd_ne n]; exact e
    have ed4 : upd H3 d (HO.dK [(.inr (Tx [120]), V.ref tv)]) d = some (HO.dK [(.inr (Tx [120]), V.ref tv)]) := upd_same
    have nH : ∀ {b : Addr}, b ≠ x → H b ≠ none → b ≠ d := fun {b} n h z => by
      subst z
      cases e : H b with
      | none => exact h e
      | some o => rw [k2 _ _ n e] at nd; cases nd
    have g4 := u dx_.symm (s3 _ _ g2)
    have f24 := u dl1.symm (s3 _ _ f2)
    have f34 := u dl2.symm (s3 _ _ f3)
    have ev4 := u dv.symm ev
    have k4 : ∀ b o, b ≠ x → H b = some o → upd H3 d (HO.dK [(.inr (Tx [120]), V.ref tv)]) b = some o := fun b o n e => u (nH n (by rw [e]; exact fun z => nomatch z)) (s3 _ _ (k2 _ _ n e))
    generalize upd H3 d (HO.dK [(.inr (Tx [120]), V.ref tv)]) = H4 at ed4 g4 f24 f34 ev4 k4 ⊢
    refine ⟨_, rfl, x, CA, dx, _, rfl, g4, PA_.cl, PA_.nP, (by show 2 < 1000; decide), ?_⟩
    have hp3 : putF "places" (V.ref d) [(("tables" : Str), V.ref l1), ("steps", V.ref l2)] = [(("tables" : Str), V.ref l1), ("steps", V.ref l2), ("places", V.ref d)] := by show (if ("tables" : Str) = "places" then _ else _) = _; rw [if_neg (by decide +kernel)]; show _ :: (if ("steps" : Str) = "places" then _ else _) = _; rw [if_neg (by decide +kernel)]; rfl
    rw [hp3]
    have tx_ : tv ≠ x := fun z => by rw [z, g4] at ev4; cases ev4
    refine q l1 l2 d _ (fun b o n e => by rw [upd_ne n]; exact k4 _ _ n e) ⟨⟨dx, upd_same⟩, l12, ⟨[], by rw [upd_ne x1.symm]; exact f24, .nil⟩, ⟨[], by rw [upd_ne x2.symm]; exact f34, .nil⟩, ⟨_, by rw [upd_ne dx_]; exact ed4, .cons (by rw [upd_ne tx_]; exact ev4) .nil⟩⟩ n1 ?_ ?_
    · cases e : H l2 with
      | none => rfl
      | some o => rw [k1 _ _ x2.symm e] at n2; cases n2
    · cases e : H d with
      | none => rfl
      | some o => rw [k2 _ _ dx_ e] at nd; cases nd
end

end Vf

set_option maxRecDepth 100000
set_option maxHeartbeats 8000000
namespace Vf
open PySem PySem.Spec PyProof.Rows L2
/-! ### try: body, except X as n: raise .. (the suite raises, and does nothing else) -/
abbrev asX (X : Cx) (a : Addr) (pn : List (Addr × Obj)) (xe : Value → Shared → Prop) : Cx := { X with A := X.A.mark (some (.ref a)), calm := false, pn := pn, xe := xe }
def noD : Ends := { nx := fun _ _ => False, rt := fun _ _ => False }
def wAsR (K : PySem.W.Frag) (c : Value) (i : Nat) (ts : Addr → Value → Option Addr → TS) : WX := fun cls d σ H =>
  PySem.W.exmOne K cls c = some true ∧ ∀ a, H a = none → ts a cls d noD (σ.set i (some (.ref a))) H
section
variable {X : Cx} {x n : Str} {c : Value} {i : Nat} {body suite : List Stmt} {b₀ : Stmt} {np pos pos' : Pos} {tb : WX → TS} {ts : Addr → Value → Option Addr → TS} {Wout : WX}
theorem asX_of {a : Addr} {q : Addr × Obj} {pins pn' : List (Addr × Obj)} {xe : Value → Shared → Prop} {σ : L2.St} {H : Hp} {s : Shared} (I : Inv (asX X a (q :: (X.pn ++ pins)) xe) pn' σ H s) (ok : X.Ok) : Inv X pins σ H s :=
  Inv.unsuite (X := X) (a := a) (q := q) (pn' := pn') (show Inv (X.suite a (q :: (X.pn ++ pins))) pn' σ H s from I.wish fun _ _ => False) ok
theorem as_raised {a0 : Addr} {oe0 : Obj} {pins : List (Addr × Obj)} {s' : Shared} {xe : Value → Shared → Prop} (hs : X.stack = X.env :: X.outer) (hf : X.env.frame = some X.env.locals) (hex : X.ex = []) (hN : X.N.Nodup) (hi : X.N[i]? = some n) (hln : X.env.kindOf n = some .local) (ok : X.Ok) (tk : L2.Takes X Wout) {u : Value}
    (xx : L2.XE (asX X a0 ((a0, oe0) :: (X.pn ++ pins)) xe) (fun cls d σ H => Wout cls d (σ.set i none) H) u s') :
    AsSuiteRaised (model X.prog X.w) (X.A.mark (some (.ref a0))) X.env n pos' (notedBy (model X.prog X.w) (X.A.mark (some (.ref a0))) X.env (cameBackBy (model X.prog X.w) X.A X.env X.xe)) u s' := by
  have hfr : (X.A.mark (some (.ref a0))).frames = some (X.env :: X.outer) := by
    show X.A.frames = _
    rw [ok.frames, hs]
  obtain ⟨a, B, sI, pins', σ', H', cls, d, rfl, J', nb, up, sky, na, os, ag, hw⟩ := xx
  have J : Inv X pins σ' H' sI := asX_of J' ok
  have sky' : Sky B (X.env :: X.outer) a (Zc cls d) X.env.locals s'.heap := by rw [← hs]; exact sky
  have fin : ∀ h1, HandSPX.HeldZ B (X.env :: X.outer) a (Zc cls d) X.env.locals h1 → s'.heap.UpToSlots h1 →
      wpAny (model X.prog X.w) (X.A.mark (some (.ref a0))) (do bindName X.env n .none; unbindBehindTheSuite X.env n pos')
        (fun _ s2 => wpAny (model X.prog X.w) (X.A.mark (some (.ref a0))) (passOn "try.except-as" (.ref a) X.env : Sem Flow) (fun _ _ => False) (notedBy (model X.prog X.w) (X.A.mark (some (.ref a0))) X.env (cameBackBy (model X.prog X.w) X.A X.env X.xe)) s2)
        (fun y s2 => wpAny (model X.prog X.w) (X.A.mark (some (.ref a0))) (setFlight (.ref a) none) (fun _ s3 => notedBy (model X.prog X.w) (X.A.mark (some (.ref a0))) X.env (cameBackBy (model X.prog X.w) X.A X.env X.xe) y s3) (notedBy (model X.prog X.w) (X.A.mark (some (.ref a0))) X.env (cameBackBy (model X.prog X.w) X.A X.env X.xe)) s2) { s' with heap := h1 } := fun h1 hh1 up1 => by
    have J3 : Inv X pins σ' H' { s' with heap := h1 } := J.landed nb hh1.1 (up.trans up1) os ag
    obtain ⟨f1, f2, f3, oe, vs, T, oT, tv, he3, hz, hd, hv1, hnT, hTe, hT, hdT, ht3⟩ := id hh1
    have nT : H' T = none := (J.inGround nb).gone hnT
    have notFr : ∀ (b : Addr) (o : Obj) (fv : Array Value), h1.get? b = some o → o.data = .fields fv → b ∉ frs (X.env :: X.outer) := fun b o fv e dd hm => by
      obtain ⟨_, o', e', hnf⟩ := f3.mem hm
      have eo : o = o' := Option.some.inj (e.symm.trans e')
      rw [← eo] at hnf
      exact hnf _ dd
    have locF : X.env.locals ∈ frs (X.env :: X.outer) := List.mem_filterMap.mpr ⟨X.env, List.mem_cons_self, hf⟩
    have fsF : ∀ b, b ∈ X.fs → b ∈ frs (X.env :: X.outer) := fun b hm => by
      obtain ⟨e, he, q⟩ := List.mem_filterMap.mp hm
      exact List.mem_filterMap.mpr ⟨e, List.mem_cons_of_mem _ he, q⟩
    have fa := notFr a oe vs he3 hd
    have fT := notFr T oT tv hT hdT
    have pin1 : ∀ {b : Addr} {o : Obj} {fv : Array Value}, h1.get? b = some o → o.data = .fields fv → H' b = none → b ∉ frs (X.env :: X.outer) → h1.get? b = some o ∧ H' b = none ∧ b ≠ X.env.locals ∧ b ∉ X.fs ∧ ∀ v, o.data ≠ .cell v := fun e dd n fr =>
      ⟨e, n, fun z => fr (by rw [z]; exact locF), fun z => fr (fsF _ z), fun v z => by rw [dd] at z; cases z⟩
    have S3 : Inv X ((a, oe) :: (T, oT) :: pins) σ' H' { s' with heap := h1 } :=
      ⟨J3.ok, J3.os, J3.bare, J3.base, J3.loc, J3.cell, J3.free, J3.freeC, fun p hp => by
        rcases List.mem_append.mp hp with hp | hp
        · exact J3.pin p (List.mem_append_left _ hp)
        · rcases List.mem_cons.mp hp with z | hp
          · rw [z]
            exact pin1 he3 hd na fa
          · rcases List.mem_cons.mp hp with z | hp
            · rw [z]
              exact pin1 hT hdT nT fT
            · exact J3.pin p (List.mem_append_right _ hp), J3.hok, J3.len⟩
    refine gone_ok S3 hN hi hln fun s6 S6 => ?_
    have J6 : Inv X pins (σ'.set i none) H' s6 := ⟨S6.ok, S6.os, S6.bare, S6.base, S6.loc, S6.cell, S6.free, S6.freeC, fun p hp => S6.pin p (by
      rcases List.mem_append.mp hp with hp | hp
      · exact List.mem_append_left _ hp
      · exact List.mem_append_right _ (List.mem_cons_of_mem _ (List.mem_cons_of_mem _ hp))), S6.hok, S6.len⟩
    have ga : s6.heap.get? a = some oe := (S6.pin (a, oe) (List.mem_append_right _ List.mem_cons_self)).1
    have gT : s6.heap.get? T = some oT := (S6.pin (T, oT) (List.mem_append_right _ (List.mem_cons_of_mem _ List.mem_cons_self))).1
    have far : ∀ b o, sI.heap.get? b = some o → b ≠ a ∧ b ≠ T := fun b o e => by
      by_cases hb : b ∈ frs X.stack
      · rw [hs] at hb
        exact ⟨fun z => fa (by rw [← z]; exact hb), fun z => fT (by rw [← z]; exact hb)⟩
      · have q := nb b o e hb
        exact ⟨(fun z => by rw [z, f2] at q; cases q), (fun z => by rw [z, hnT] at q; cases q)⟩
    have far0 : ∀ b o, X.s_0.heap.get? b = some o → b ≠ a ∧ b ≠ T := fun b o e => by
      obtain ⟨o', q⟩ := J.base.there b o e (by rw [hex]; simp)
      exact far b o' q
    have farP : ∀ p ∈ X.pn ++ pins, p.1 ≠ a ∧ p.1 ≠ T := fun p hp => far p.1 p.2 (J.pin p hp).1
    obtain ⟨G, g1, g2⟩ := restrict s6.heap fun b => !(decide (b = a) || decide (b = T))
    have gIn : ∀ b o, G.get? b = some o → s6.heap.get? b = some o ∧ b ≠ a ∧ b ≠ T := fun b o e => by
      cases q : (!(decide (b = a) || decide (b = T))) with
      | false =>
        rw [g2 b q] at e
        cases e
      | true =>
        rw [g1 b q] at e
        simp only [Bool.not_eq_true', Bool.or_eq_false_iff, decide_eq_false_iff_not] at q
        exact ⟨e, q.1, q.2⟩
    have gOf : ∀ b o, b ≠ a → b ≠ T → s6.heap.get? b = some o → G.get? b = some o := fun b o n1 n2 e => by
      rw [g1 b (by simp [n1, n2])]
      exact e
    have I6 : Inv X pins (σ'.set i none) H' { s6 with heap := G } := J6.less (fun b o e => (gIn b o e).1) gOf ⟨oe, vs, ga, hd⟩ ⟨oT, tv, gT, hdT⟩ na nT far0 farP
    have B6in : ∀ b o, (PySem.W.hideAll G (frs X.stack)).get? b = some o → s6.heap.get? b = some o := fun b o e => (gIn b o (PySem.W.of_hideAll _ e)).1
    have Bno : ∀ b, (b = a ∨ b = T) → (PySem.W.hideAll G (frs X.stack)).get? b = none := fun b hb => by
      cases q : (PySem.W.hideAll G (frs X.stack)).get? b with
      | none => rfl
      | some o =>
        obtain ⟨_, n1, n2⟩ := gIn b o (PySem.W.of_hideAll _ q)
        rcases hb with z | z
        · exact absurd z n1
        · exact absurd z n2
    have hh6 : HandSPX.HeldZ (PySem.W.hideAll G (frs X.stack)) (X.env :: X.outer) a (Zc cls d) X.env.locals s6.heap := by
      refine ⟨B6in, Bno a (.inl rfl), ?_, oe, vs, T, oT, tv, ga, hz, hd, hv1, Bno T (.inr rfl), hTe, gT, hdT, ht3⟩
      have ff := funFrames_none (B := PySem.W.hideAll G (frs X.stack)) J6.stack fun b hb => PySem.W.hideAll_none _ hb
      rw [← hs]
      exact ff
    show wpAny (model X.prog X.w) (X.A.mark (some (.ref a0))) (PySem.passOn "try.except-as" (.ref a) X.env) _ _ s6
    unfold PySem.passOn
    refine wpAny_bind (wpAny_field ga hd hv1 ?_)
    rw [if_neg (show ¬ ((Value.ref T == Value.none) = true) from by simp)]
    have goOn : wpAny (model X.prog X.w) (X.A.mark (some (.ref a0))) (setFlight (.ref a) X.env.frame) (fun _ s7 => wpAny (model X.prog X.w) (X.A.mark (some (.ref a0))) (throw (.ref a) : Sem Flow) (fun _ _ => False) (notedBy (model X.prog X.w) (X.A.mark (some (.ref a0))) X.env (cameBackBy (model X.prog X.w) X.A X.env X.xe)) s7) (notedBy (model X.prog X.w) (X.A.mark (some (.ref a0))) X.env (cameBackBy (model X.prog X.w) X.A X.env X.xe)) s6 := by
      rw [hf]
      refine HandSPX.setFlight_onZ hh6 fun h7 hh7 up7 => wpAny_throw ?_
      show wpAny (model X.prog X.w) (X.A.mark (some (.ref a0))) (noteFrame (.ref a) X.env) _ _ _
      refine HandSPX.againZ hf hh7.2.2.2 ?_
      obtain ⟨k1, k2, k3, oe', vs', T', oT', tv', he', hz', hd', hv', r'⟩ := id hh7
      show wpAny (model X.prog X.w) X.A (do
        if (← field (.ref a) 1) == .none then unsupported "frame.own-activation:exception-without-traceback"
        setFlight (.ref a) X.env.frame) _ _ _
      refine wpAny_bind (wpAny_field he' hd' hv' ?_)
      rw [if_neg (show ¬ ((Value.ref T' == Value.none) = true) from by simp), hf]
      refine HandSPX.setFlight_onZ hh7 fun h8 hh8 up8 => tk _ _ ?_
      refine ⟨a, PySem.W.hideAll G (frs X.stack), { s6 with heap := G }, pins, σ'.set i none, H', cls, d, rfl, I6, fun b o e hb => PySem.W.hideAll_get _ e hb, ?_, .inr (.inr (by rw [← hs] at hh8; exact hh8)), na, rfl, J6.bare, hw⟩
      exact ((Heap.UpToSlots.of_keeps fun b o e => (gIn b o e).1).trans up7).trans up8
    first
      | exact wpAny_bind (wpAny_pure (wpAny_bind goOn))
      | exact wpAny_bind goOn
  show wpAny (model X.prog X.w) (X.A.mark (some (.ref a0))) (noteFrame (.ref a) X.env) _ _ _
  rcases sky' with ⟨hB, hn, hl, oe, vs, he0, hz, hd, hv1⟩ | fl | hh
  · exact HandSPX.look_newZ Zc.steady hfr hl hf he0 hB hn hd hv1 hz fin
  · exact HandSPX.looks_onZ Zc.steady hfr hf fl fin
  · exact HandSPX.againZ hf hh.2.2.2 (fin s'.heap hh (Heap.UpToSlots.refl _))
theorem ps_try_raise (hs : X.stack = X.env :: X.outer) (hf : X.env.frame = some X.env.locals) (hex : X.ex = []) (hN : X.N.Nodup) (hi : X.N[i]? = some n) (hln : X.env.kindOf n = some .local) (hc : Names X x c) (tk : L2.Takes X Wout)
    (hb : ∀ (W : WX) (pn : List (Addr × Obj)) (xe : Value → Shared → Prop), L2N.Takes (X.tr pn xe) W → PassesOwn (model X.prog X.w) X.A X.env xe → PSs (X.tr pn xe) body (tb W))
    (hsu : ∀ (a : Addr) (oe : Obj) (cls : Value) (d : Option Addr) (pn : List (Addr × Obj)) (xe : Value → Shared → Prop), L2N.Zn cls d oe → (∃ vs, oe.data = .fields vs) → L2.Takes (asX X a ((a, oe) :: pn) xe) (fun cls d σ H => Wout cls d (σ.set i none) H) → L2H.HotC (asX X a ((a, oe) :: pn) xe) →
      PSs (asX X a ((a, oe) :: pn) xe) (b₀ :: suite) (ts a cls d)) :
    PS X (.Try body [.ExceptHandler (some (.Name x np)) (some n) (b₀ :: suite) pos'] [] [] pos) (fun D σ H => tb (wAsR X.K c i ts) D σ H) := by
  refine ⟨fun pins s σ H D I h => ?_⟩
  have ok := I.ok
  have hfr : X.A.frames = some (X.env :: X.outer) := by rw [ok.frames, hs]
  refine wpAny_Try_except ?_
  refine wpAny_mono ((hb (wAsR X.K c i ts) (X.pn ++ pins) (fun e s1 => wpAny (model X.prog X.w) X.A (noteFrame e X.env) (fun _ s2 => wpAny (model X.prog X.w) X.A (setFlight e none) (fun _ s3 =>
    wpAny (model X.prog X.w) X.A (handleBy e X.env [.ExceptHandler (some (.Name x np)) (some n) (b₀ :: suite) pos']) (SP X pins D) X.xe s3) X.xe s2) X.xe s1) (fun u s' xx => ?_) PassesOwn.looking).run [] s σ H D (I.toTry _) h) (fun f s1 hsp => ?_) (fun e s1 he => he)
  · obtain ⟨a, B, sI, pins', σ', H', cls, d, rfl, J', nb, up, sky, na, os, ag, hb1, hyes⟩ := xx
    have J : Inv X pins σ' H' sI := J'.ofTry ok
    have sky' : Sky B (X.env :: X.outer) a (L2N.Zn cls d) X.env.locals s'.heap := by rw [← hs]; exact sky
    show wpAny (model X.prog X.w) X.A (noteFrame (.ref a) X.env) _ _ _
    refine L2N.Sky.land L2N.Zn.steady hfr hf sky' fun h3 fl3 up3 => ?_
    have J3 : Inv X pins σ' H' { s' with heap := h3 } := J.landed nb fl3.1 (up.trans up3) os ag
    obtain ⟨oe3, vs3, he3, hz3, hd3⟩ := fl3.there
    have nfr : a ∉ frs (X.env :: X.outer) := fun hm => by
      obtain ⟨_, o', e', hnf⟩ := fl3.2.2.1.mem hm
      rw [he3] at e'; cases e'
      exact hnf _ hd3
    have nL : a ≠ X.env.locals := fun z => nfr (List.mem_filterMap.mpr ⟨X.env, List.mem_cons_self, by rw [hf, z]⟩)
    have nF : a ∉ X.fs := fun hm => by
      obtain ⟨e, he, q⟩ := List.mem_filterMap.mp hm
      exact nfr (List.mem_filterMap.mpr ⟨e, List.mem_cons_of_mem _ he, q⟩)
    have S3 := J3.suite he3 hd3 na nL nF
    refine wpAny_handleBy_cons (codeAny_handlers_test ?_) (by intro q; cases q)
    have LT : PySem.W.Looks (model X.prog X.w) h3 (typeOf (.ref a)) cls := fun A Q E s k q => wpAny_typeOf_ref (k _ _ he3) (by rw [hz3.1]; exact q)
    have LM := PySem.W.exm_one (M := model X.prog X.w) (J3.kIn) LT hb1
    have test : ∀ {Q : Value → Shared → Prop} {E : Value → Shared → Prop}, Q c { s' with heap := h3 } → wpAny (model X.prog X.w) (X.A.mark (some (.ref a))) (eval (.Name x np) X.env) Q E { s' with heap := h3 } := fun {Q E} q => by
      obtain ⟨hg, hdbg, hm | ⟨hm, hv, hnn⟩⟩ := hc
      · exact ld_glob (X := X.suite a ((a, oe3) :: (X.pn ++ pins))) S3 hg hm q hdbg
      · exact ld_blt (X := X.suite a ((a, oe3) :: (X.pn ++ pins))) S3 hg hm hv q hnn hdbg
    refine test (LM.here ?_)
    refine codeAny_handlers_suite_as ?_
    refine HandSPX.lands_againZ fl3 fun h4 fl4 up4 => ?_
    have J4 : Inv X pins σ' H' { s' with heap := h4 } := J.landed nb fl4.1 ((up.trans up3).trans up4) os ag
    obtain ⟨oe4, vs4, he4, hz4, hd4⟩ := fl4.there
    have S4 := J4.suite he4 hd4 na nL nF
    refine store_ok (X := X.suite a ((a, oe4) :: (X.pn ++ pins))) (v := .ref a) S4 hN hi (.inl hln) rfl (fun s5 S5 => ?_) (.inr hln)
    have hot : L2H.HotC (asX X a ((a, oe4) :: (X.pn ++ pins)) (AsSuiteRaised (model X.prog X.w) (X.A.mark (some (.ref a))) X.env n pos' (notedBy (model X.prog X.w) (X.A.mark (some (.ref a))) X.env (cameBackBy (model X.prog X.w) X.A X.env X.xe)))) :=
      ⟨(a, oe4), ⟨rfl, vs4, hd4, hz4.2.2 vs4 hd4⟩, List.mem_cons_self⟩
    have hsu' := hsu a oe4 cls d (X.pn ++ pins) (AsSuiteRaised (model X.prog X.w) (X.A.mark (some (.ref a))) X.env n pos' (notedBy (model X.prog X.w) (X.A.mark (some (.ref a))) X.env (cameBackBy (model X.prog X.w) X.A X.env X.xe))) hz4 ⟨_, hd4⟩
      (fun u s6 xx6 => as_raised hs hf hex hN hi hln ok tk xx6) hot
    refine wpAny_mono (hsu'.run [] s5 _ H' noD (Inv.unwish (E := fun _ _ => False) S5) (hyes a na)) (fun f s6 hsp => ?_) (fun _ _ z => z)
    cases f with
    | next => obtain ⟨_, _, _, q⟩ := hsp; exact False.elim q
    | brk => obtain ⟨_, _, _, q⟩ := hsp; exact False.elim q
    | cont => obtain ⟨_, _, _, q⟩ := hsp; exact False.elim q
    | ret u => obtain ⟨_, _, _, _, _, q⟩ := hsp; exact False.elim q
  · cases f with
    | next =>
      obtain ⟨σ', H', J', q⟩ := hsp
      exact wpAny_execs_nil ⟨σ', H', J'.ofTry ok, q⟩
    | brk =>
      obtain ⟨σ', H', J', q⟩ := hsp
      exact ⟨σ', H', J'.ofTry ok, q⟩
    | cont =>
      obtain ⟨σ', H', J', q⟩ := hsp
      exact ⟨σ', H', J'.ofTry ok, q⟩
    | ret u =>
      obtain ⟨v, σ', H', J', r, q⟩ := hsp
      exact ⟨v, σ', H', J'.ofTry ok, r, q⟩
end

/-- o.m(e, ..), what it lets out being told at the slots as they stand -/
def tMethS (m : Str) (C : Addr) (sp : Sp) (E : L2.St → XK) (ta : TE) (t : TA) : TE := fun σ H Q => ta σ H fun x H1 => ∃ a dx fs, x = .ref a ∧ H1 a = some (.ins C dx fs) ∧ fs.lookup m = none ∧ t σ H1 fun vs H2 => sp (x :: vs) H2 Q (E σ)
theorem pe_methS {X : Cx} {CX : CXT} {k : Nat} {f C : Addr} {fd : FuncData} {ps : List Str} {sp : Sp} {E : L2.St → XK} {m : Str} {pos apos : Pos} {e o : Expr} {es : List Expr} {ta : TE} {t : TA} {pl : Sem Bool} (he : PE X o ta) (c : Cls X.K C) (hm : Meth X.K C m f) (F : FnOk X.prog X.w X.K X.mg X.base CX k f fd ps sp) (hr : Room k X.A) (hb : Binds X.K fd ps []) (hx : ∀ σ, PassesAt CX X σ (E σ)) (ha : PA X (e :: es) t)
    (hst : starEach (e :: es) X.env = (false, eval e X.env) :: starEach es X.env := by rfl) (hpl : (backTo pos (starEach es X.env)).any (·.1) = false := by rfl)
    (ht : eval (.Call (.Attribute o m apos) (e :: es) [] pos) X.env = (do
      let ov ← eval o X.env
      standAt apos.atName
      let (f, first) ← holding [ov] (getMethod ov m pl)
      callWith pos f first (backTo pos (starEach (e :: es) X.env)) (backToKw pos (keywordEach [] X.env))) := by rfl) :
    PE X (.Call (.Attribute o m apos) (e :: es) [] pos) (tMethS m C sp E ta t) := by
  refine ⟨fun pins s σ H Q I h => ?_⟩
  refine PySem.W.methodCall_KW (pl := pl) (thn (he.run pins s σ H _ I h) fun u s1 ⟨x, H1, I1, rx, a, dx, fs, ex, ea, l, q⟩ => ?_) ht
  subst ex
  obtain rfl : u = Value.ref a := rx
  refine getmeth_ok I1 ea c hm l ?_
  refine PySem.W.callWith_K (first := [.ref a]) (h₀ := X.base) I.ok.mod.kin hm.kp (thn (ha.run pos pins s1 σ H1 _ I1 q) fun us s2 ⟨vs, H2, I2, r, q2⟩ => ⟨I2.kIn, ?_⟩) hst hpl
  exact run_fnS (us := .ref a :: us) (vs := .ref a :: vs) F hr hb (hx σ) I2 (.cons rfl r) q2

end Vf

set_option maxRecDepth 100000
set_option maxHeartbeats 4000000
/-! enumerate(row, start=1), in loops -/
namespace Vf
open PySem PySem.Spec PyProof.Rows L2
section
variable {M : Model} {A : Around} {E : Value → Shared → Prop} {s : Shared} {env : Env}
theorem callWith_typeKw {pos : Pos} {T : String} {e : Expr} {rest : List Expr} {kws : List Keyword} {Q : Value → Shared → Prop}
    (h : wpAny M A (spliced (backTo pos (starEach (e :: rest) env))) (fun vs s1 => wpAny M A (evalAll ((backToKw pos (keywordEach kws env)).map (·.2)))
      (fun kvs s2 => wpAny M A (call (.type T) vs (((backToKw pos (keywordEach kws env)).filterMap (·.1)).zip kvs)) Q E s2) E s1) E s)
    (he : backTo pos (starEach (e :: rest) env) = (false, eval e env) :: backTo pos (starEach rest env) := by rfl)
    (hplain : (backTo pos (starEach (e :: rest) env)).any (·.1) = false := by rfl)
    (hall : (backToKw pos (keywordEach kws env)).all (·.1.isSome) = true := by rfl)
    (hkw : (backToKw pos (keywordEach kws env)).any (·.1.isNone) = false := by rfl) :
    wpAny M A (callWith pos (.type T) [] (backTo pos (starEach (e :: rest) env)) (backToKw pos (keywordEach kws env))) Q E s := by
  have h' : wpAny M A (evalArgs (.type T) true (backTo pos (starEach (e :: rest) env)) (backToKw pos (keywordEach kws env))) (fun a s1 => wpAny M A (call (.type T) ([] ++ a.pos) a.kw) Q E s1) E s := by
    rw [he] at h ⊢
    exact evalArgs_kwB hall h
  unfold callWith
  refine wpAny_bind (wpAny_holding (wpAny_mono h' (fun a s1 h1 => wpAny_bind (wpAny_standAt ?_)) fun _ _ x => x))
  simp only [hplain, hkw, Bool.or_false]
  refine wpAny_bind (wpAny_pure ?_)
  exact wpAny_bind (wpAny_mono h1 (fun r s2 hr => wpAny_bind (wpAny_holding (wpAny_point (wpAny_pure hr)))) fun _ _ x => x)
end

def IteK (p : Bool) (K : PySem.W.Frag) (a : Addr) : It :=
  ⟨fun i H => ∃ (xs : List V) (x : V), SqB p K H a xs ∧ xs[i]? = some x, fun i H v H' => ∃ T x, v = .ref T ∧ H T = none ∧ H' = upd H T (.tup [.int ((i : Nat) + 1 : Int), x]) ∧ ∀ xs, SqB p K H a xs → xs[i]? = some x, fun i H => ∃ xs : List V, SqB p K H a xs ∧ xs.length = i⟩
theorem turn_enumK {P : Program} {w : World} {K : PySem.W.Frag} {elts : List Expr} {kk : Nat} {tpos : Pos} (p : Bool) (a e it : Addr) (hae : a ≠ e) (hai : a ≠ it) :
    Turn P w K (.Tuple elts kk tpos) (IteK p K a) [e, it] e (fun i h => (∃ old, IsEnum h e it (((i : Nat) : Int) + 1) old) ∧ ItB p h it a i ∧ e ≠ it) where
  mem := by simp
  obj := fun i h st b hb => by
    obtain ⟨⟨old, he⟩, h1, _⟩ := st
    have e' : b = e ∨ b = it := by simpa using hb
    rcases e' with z | z
    · rw [z]; exact ⟨_, he, fun v q => nomatch q⟩
    · rw [z]; exact h1.obj
  keep := fun i h h' st k => let ⟨⟨old, he⟩, hi, hne⟩ := st; ⟨⟨old, k e (by simp) _ he⟩, hi.at fun o q => k it (by simp) o q, hne⟩
  item := by
    intro X hP hw hK hc i pins s σ H E I hf st hg
    subst hP hw hK
    obtain ⟨⟨old, he⟩, hit, hne⟩ := st
    obtain ⟨xs, x, hq, hx⟩ := hg
    obtain ⟨its, rv, p1⟩ := seqB I hq
    obtain ⟨u, hu, ru⟩ := rv.get hx
    have hel : e < s.heap.objs.size := Heap.lt_size he
    have hil : it < s.heap.objs.size := by obtain ⟨_, q, _⟩ := hit.obj; exact Heap.lt_size q
    have hh : X.A.in1.handled = none := I.ok.hd hc
    have l1 : i < its.toArray.size := by
      have := (List.getElem?_eq_some_iff.mp hu).1
      simpa using this
    refine wpAny_pyNext_enum_itemC (i := i) (drawsB p hh it a hai its.toArray) he ⟨hit, p1⟩ l1 hne (by simp [hne, hae.symm]) fun u' h' tk e1 ho hit' hT hsz hk => ?_
    have eu : u' = u := by
      rw [List.getElem?_toArray, hu] at e1
      exact (Option.some.inj e1).symm
    subst eu
    refine ⟨_, rfl, wpAny_letOwnedTupleGo_enum (s := { s with heap := h', toks := tk + 1 }) ho fun h'' he' sb => ?_⟩
    have hT2 : h''.get? s.heap.objs.size = some { cls := .type "tuple", data := .seq #[.int ((i : Int) + 1) tk, u'] } := (sb.2 _ (Nat.ne_of_gt hel)).trans hT
    have new : ObjOk X.prog X.w (upd H s.heap.objs.size (.tup [.int ((i : Nat) + 1 : Int), x])) h'' s.heap.objs.size (.tup [.int ((i : Nat) + 1 : Int), x]) :=
      ⟨by show 2 ≤ sizeLine; decide, [.int ((i : Int) + 1) tk, u'], .cons ⟨_, rfl⟩ (.cons ru .nil), ⟨_, hT2, rfl, _, rfl⟩⟩
    have I1 : Inv X pins σ (upd H s.heap.objs.size (.tup [.int ((i : Nat) + 1 : Int), x])) { s with heap := h'', toks := tk + 1 } :=
      I.turnedNew (ch := [e, it]) (fun b ob hb q => (sb.2 b (fun z => hb (by simp [z]))).trans (hk b ob (fun z => hb (by simp [z])) (fun z => hb (by simp [z])) q)) hf (Nat.le_refl _) new
    refine ⟨.ref s.heap.objs.size, _, I1, rfl, ⟨_, x, rfl, I.hok.fresh (Nat.le_refl _), rfl, fun ys hy => by rw [seqB_inj I hy hq]; exact hx⟩, ⟨⟨u', ?_⟩, hit'.1.at fun o q => (sb.2 it (Ne.symm hne)).trans q, hne⟩, fun b hb => ?_⟩
    · have e1 : ((i + 1 : Nat) : Int) + 1 = (i : Int) + 1 + 1 := by omega
      rw [e1]; exact he'
    · have hb' : b < s.heap.objs.size := by
        have e' : b = e ∨ b = it := by simpa using hb
        rcases e' with z | z
        · rw [z]; exact hel
        · rw [z]; exact hil
      rw [upd_ne (Nat.ne_of_lt hb')]
      exact (hf b hb).1
  done := by
    intro X hP hw hK hc i pins s σ H E I hf st hg
    subst hP hw hK
    obtain ⟨⟨old, he⟩, hit, hne⟩ := st
    obtain ⟨xs, hq, hx⟩ := hg
    obtain ⟨its, rv, p1⟩ := seqB I hq
    obtain ⟨f0, f1, f2, f3, f4, f5⟩ := hf it (by simp)
    have hl := rv.length
    have hh : X.A.in1.handled = none := I.ok.hd hc
    have s1 : its.toArray.size = i := by simp; omega
    refine wpAny_pyNext_enum_endD (drawsB p hh it a hai its.toArray) he (by rw [s1]; exact ⟨hit, p1⟩) fun h' eb => ⟨rfl, I.turned (t' := s.toks) (fun b o hb q => eb b o hb q) f0 f1 f3 f4 f5⟩
  self := fun A i s Q E st h => let ⟨⟨_, he⟩, _⟩ := st; wpAny_pyIter_enum he h
def iEnumK (K : PySem.W.Frag) (ta tk : TA) : TI := fun σ H R => ta σ H fun vs H1 => tk σ H1 fun zs H2 => ∃ p a xs, vs = [.ref a] ∧ zs = [.int 1] ∧ SqB p K H2 a xs ∧ R (IteK p K a) H2
theorem pi_enumK {X : Cx} {e : Expr} {kws : List Keyword} {ta tk : TA} {p pos tpos : Pos} {elts : List Expr} {kk : Nat} (hg : Gl X "enumerate") (hm : X.mg "enumerate" = none) (ha : PA X [e] ta) (hk : PK X kws tk)
    (hks : (backToKw pos (keywordEach kws X.env)).filterMap (·.1) = [Str.ofString "start"] := by rfl)
    (he : backTo pos (starEach [e] X.env) = (false, eval e X.env) :: backTo pos (starEach [] X.env) := by rfl) (hpl : (backTo pos (starEach [e] X.env)).any (·.1) = false := by rfl)
    (hall : (backToKw pos (keywordEach kws X.env)).all (·.1.isSome) = true := by rfl) (hnone : (backToKw pos (keywordEach kws X.env)).any (·.1.isNone) = false := by rfl) :
    PI X (.Tuple elts kk tpos) (.Call (.Name "enumerate" p) [e] kws pos) (iEnumK X.K ta tk) := by
  refine ⟨fun pins s σ H R I h => ?_⟩
  refine wpAny_Call_Name_kw (ld_blt I hg hm boot_enumerate ?_)
  refine callWith_typeKw (thn (ha.run pos pins s σ H _ I h) fun us s1 ⟨vs, H1, I1, r1, q1⟩ => thn (hk.run pos pins s1 σ H1 _ I1 q1) fun ws s2 ⟨zs, H2, I2, r2, q2⟩ => ?_) he hpl hall hnone
  rw [hks]
  obtain ⟨p, a, xs, ex, ez, hq, q⟩ := q2
  subst ex
  subst ez
  cases r1 with
  | cons r rr =>
    cases rr
    cases r
    cases r2 with
    | cons r' rr' =>
      cases rr'
      obtain ⟨t, rfl⟩ := r'
      obtain ⟨its, rv, p1⟩ := seqB I2 hq
      have al := p1.lt
      show wpAny _ _ (call (.type "enumerate") [.ref a] [(Str.ofString "start", .int 1 t)]) _ _ _
      refine enum_begins_start (beginsB p a its.toArray) p1 (by decide) (by decide) fun h' he hit hsz hk => wpAny_pyIter_enum he ?_
      have I3 : Inv X pins σ H2 { s2 with heap := h' } := I2.kept (t' := s2.toks) hk
      refine ⟨s2.heap.objs.size + 1, [s2.heap.objs.size + 1, s2.heap.objs.size], _, _, H2, rfl, I3, turn_enumK p a (s2.heap.objs.size + 1) s2.heap.objs.size (Nat.ne_of_lt (Nat.lt_of_lt_of_le al (Nat.le_add_right _ _))) (Nat.ne_of_lt al), ⟨⟨.none, he⟩, itB_of hit, Nat.succ_ne_self _⟩, fun b hb => ?_, q⟩
      have e' : b = s2.heap.objs.size + 1 ∨ b = s2.heap.objs.size := by simpa using hb
      have hle : s2.heap.objs.size ≤ b := by
        rcases e' with z | z
        · rw [z]; exact Nat.le_add_right _ _
        · rw [z]; exact Nat.le_refl _
      exact I2.fpOk hle (I2.hok.fresh hle)
/-- a loop over enumerate(row, start=1) -/
theorem for_enumK {p : Bool} {K : PySem.W.Frag} {a : Addr} {xs : List V} {g : TG} {tb : TS} {D : Ends} {σ : L2.St} {H : Hp} (Pv : Nat → L2.St → Hp → Prop) (h0 : Pv 0 σ H)
    (hq : ∀ i σ H, Pv i σ H → SqB p K H a xs)
    (hs : ∀ (i : Nat) (x : V) (T : Addr) (σ : L2.St) (H : Hp), xs[i]? = some x → Pv i σ H → H T = none → g (.ref T) σ (upd H T (.tup [.int ((i : Nat) + 1 : Int), x])) fun σ2 H2 => tb { D with nx := Pv (i + 1), ct := Pv (i + 1), bk := D.nx } σ2 H2) (hd : ∀ σ H, Pv xs.length σ H → D.nx σ H) :
    ∃ W : Nat → Nat → L2.St → Hp → Prop, (∃ m, W 0 m σ H) ∧ ∀ i m σ H, W i m σ H →
      (((IteK p K a).stop i H ∧ D.nx σ H) ∨ ((IteK p K a).go i H ∧ ∃ N : L2.St → Hp → Prop, (∀ σ' H', N σ' H' → ∃ m', m' < m ∧ W (i + 1) m' σ' H') ∧ ∀ v H', (IteK p K a).yld i H v H' → g v σ H' fun σ2 H2 => tb { D with nx := N, ct := N, bk := D.nx } σ2 H2)) := by
  refine ⟨fun i m σ H => m = xs.length - i ∧ i ≤ xs.length ∧ Pv i σ H, ⟨xs.length, rfl, Nat.zero_le _, h0⟩, ?_⟩
  rintro i m σ H ⟨rfl, hi, pv⟩
  have qx := hq i σ H pv
  by_cases hlt : i < xs.length
  · have hx : xs[i]? = some xs[i] := List.getElem?_eq_getElem hlt
    refine .inr ⟨⟨xs, xs[i], qx, hx⟩, Pv (i + 1), fun σ' H' p' => ⟨xs.length - (i + 1), by omega, rfl, hlt, p'⟩, fun v H' y => ?_⟩
    obtain ⟨T, x', rfl, n, rfl, h1⟩ := y
    exact hs i x' T σ H (h1 xs qx) pv n
  · have e : i = xs.length := by omega
    subst e
    exact .inl ⟨⟨xs, qx, rfl⟩, hd σ H pv⟩
end Vf

set_option maxRecDepth 100000
set_option maxHeartbeats 8000000
namespace Vf
open PySem PySem.Spec PyProof.Rows L2
/-! ### the lines of a text, and what they tell together -/
def spn : List Nat → List Nat → List (List Nat)
  | acc, [] => [acc]
  | acc, c :: r => if c = 10 then acc :: spn [] r else spn (acc ++ [c]) r
theorem spn_spl : ∀ (t acc : List Nat), TL.spl [10] 0 acc t = spn acc t
  | [], _ => rfl
  | c :: r, acc => by
    have e : TL.pre [10] (c :: r) = decide (c = 10) := by
      unfold TL.pre
      show (([c] : List Nat) == [10]) = _
      by_cases h : c = 10
      · subst h; rfl
      · rw [decide_eq_false h]
        exact beq_eq_false_iff_ne.mpr fun z => h (List.cons.inj z).1
    by_cases h : c = 10
    · rw [TL.spl_hit (by rw [e]; exact decide_eq_true h)]
      show acc :: TL.spl [10] 0 [] r = (if c = 10 then acc :: spn [] r else spn (acc ++ [c]) r)
      rw [if_pos h, spn_spl r []]
    · rw [TL.spl_miss (by rw [e]; exact decide_eq_false h)]
      show _ = (if c = 10 then acc :: spn [] r else spn (acc ++ [c]) r)
      rw [if_neg h, spn_spl r (acc ++ [c])]
theorem spn_ne : ∀ (t acc : List Nat), spn acc t ≠ []
  | [], _ => by intro h; cases h
  | c :: r, acc => by
    show (if c = 10 then acc :: spn [] r else spn (acc ++ [c]) r) ≠ []
    split
    · intro h; cases h
    · exact spn_ne r _
theorem spn_num : ∀ (t acc : List Nat), (spn acc t).length ≤ t.length + 1
  | [], _ => Nat.le_refl _
  | c :: r, acc => by
    show (if c = 10 then acc :: spn [] r else spn (acc ++ [c]) r).length ≤ _
    split
    · have := spn_num r []
      rw [List.length_cons, List.length_cons]
      omega
    · have := spn_num r (acc ++ [c])
      rw [List.length_cons]
      omega
theorem spn_len : ∀ (t acc : List Nat), ∀ l ∈ spn acc t, l.length ≤ acc.length + t.length
  | [], acc, l, h => by
    rw [show l = acc by simpa [spn] using h]
    omega
  | c :: r, acc, l, h => by
    have h : l ∈ (if c = 10 then acc :: spn [] r else spn (acc ++ [c]) r) := h
    rw [List.length_cons]
    split at h
    · rcases List.mem_cons.mp h with z | z
      · rw [z]; omega
      · have := spn_len r [] l z
        rw [List.length_nil] at this
        omega
    · have := spn_len r (acc ++ [c]) l h
      rw [List.length_append, List.length_singleton] at this
      omega
def lns (t : List Nat) : List (List Nat) := if (spn [] t).getLast? = some [] then (spn [] t).dropLast else spn [] t
theorem lns_num (t : List Nat) : (lns t).length ≤ t.length + 1 := by
  have := spn_num t []
  unfold lns
  split
  · rw [List.length_dropLast]; omega
  · exact this
theorem lns_len {t l : List Nat} (h : l ∈ lns t) : l.length ≤ t.length := by
  have k := spn_len t [] l (by
    unfold lns at h
    split at h
    · exact List.dropLast_subset _ h
    · exact h)
  rw [List.length_nil] at k
  omega
def pLines : Nat → Pst → List (List Nat) → Except (Nat × Nat) Pst
  | _, st, [] => .ok st
  | k, st, l :: ls => match pLine st l with
    | .error c => .error (k, c)
    | .ok st' => pLines (k + 1) st' ls
def st0 : Pst := ⟨[], [], [([120], false, 0)]⟩
def pProg (t : List Nat) : Except (Nat × Nat) Pst := match pLines 1 st0 (lns t) with
  | .error e => .error e
  | .ok st => if st.steps = [] then .error ((lns t).length + 1, 1) else .ok st
def RaisesL (CL : Addr) (H : Hp) (e : Nat × Nat) (E : XK) : Prop := ∀ (d : Addr) (H' : Hp), Same H H' → H d = none → H' d = some (.xd (fl ["line", "column"] [.int (e.1 : Int), .int (e.2 : Int)])) → E (.ref CL) (some d) H'
def TellsL (CL : Addr) (H : Hp) {α : Type} (r : Except (Nat × Nat) α) (E : XK) (ok : α → Prop) : Prop := match r with
  | .error e => RaisesL CL H e E
  | .ok x => ok x
def spLns : Sp := fun vs H Q _ => ∃ t : List Nat, vs = [.str (Tx t)] ∧ t.length + 2 ≤ LL ∧ ∀ (p : Addr) (H' : Hp), Same H H' → H p = none → H' p = some (.lst ((lns t).map fun l => V.str (Tx l))) → Q (.ref p) H'
def spPars (CA CL : Addr) : Sp := fun vs H Q E => ∃ t : List Nat, vs = [.str (Tx t)] ∧ t.length + 2 ≤ LL ∧
  TellsL CL H (pProg t) E fun st => ∀ (x l1 l2 d : Addr) (H' : Hp), Same H H' → PsAt CA H' x l1 l2 d st → H x = none → Q (.ref x) H'
theorem grow {st st' : Pst} {t : List Nat} (h : pLine st t = .ok st') : st'.tabs.length ≤ st.tabs.length + 1 ∧ st'.steps.length ≤ st.steps.length + 1 ∧ st'.env.length ≤ st.env.length + 1 := by
  have g1 : ∀ {a : Nat}, pTable st t a = .ok st' → st'.tabs.length ≤ st.tabs.length + 1 ∧ st'.steps.length ≤ st.steps.length + 1 ∧ st'.env.length ≤ st.env.length + 1 := fun {a} h => by
    unfold pTable at h
    split at h
    · cases h
    · split at h
      · cases h
      · split at h
        · cases h
        · cases h
          simp only [List.length_append, List.length_singleton]
          omega
  have g2 : ∀ {a : Nat}, pStep st t a = .ok st' → st'.tabs.length ≤ st.tabs.length + 1 ∧ st'.steps.length ≤ st.steps.length + 1 ∧ st'.env.length ≤ st.env.length + 1 := fun {a} h => by
    unfold pStep at h
    split at h
    · cases h
    · split at h
      · cases h
      · split at h
        · cases h
        · split at h
          · cases h
          · cases h
            simp only [List.length_append, List.length_singleton]
            omega
  unfold pLine at h
  split at h
  · cases h
    omega
  · split at h
    · exact g1 h
    · exact g2 h
/-- the reader's class, as it is made -/
structure PaM (P : Program) (w : World) (K : PySem.W.Frag) (mg : Str → Option Value) (base : Heap) (CA : Addr) where
  f : Addr
  fd : FuncData
  mkI : Mk K CA f
  b : Binds K fd ["self"] []
  ok : FnOk P w K mg base CX0 1 f fd ["self"] (spPsI CA)
/-- BadText as it is caught, BadLine as it is raised there -/
structure Ct (P : Program) (w : World) (K : PySem.W.Frag) (mg : Str → Option Value) (base : Heap) (CT CL : Addr) where
  mT : mg "BadText" = some (.ref CT)
  ex : PySem.W.exmOne K (.ref CT) (.ref CT) = some true
  xf : XfC K CT
  nC : PySem.W.findIn K (.ref CT) "column" = some none
  L : Ex P w K mg base "BadLine" CL ["line", "column"]
  hot : L2H.FnH P w K mg base CX0 1 L.f L.fd ["self", "line", "column"] (spIni CL ["line", "column"])
theorem lit_nl : ("\n" : Str) = Tx [10] := by decide +kernel
theorem atI_last {xs : List V} (h : xs ≠ []) : atI xs (-1) = xs.getLast? := by
  have hp : 0 < xs.length := List.length_pos_iff.mpr h
  have e : ixN xs.length (-1) = some (xs.length - 1) := by
    unfold ixN
    rw [if_neg (by decide), if_pos (by omega)]
    exact congrArg some (by omega)
  unfold atI
  rw [e, List.getLast?_eq_getElem?]
  rfl
theorem cut_last (xs : List V) : cutV xs none (some (-1)) = xs.dropLast := by
  unfold cutV
  have e1 : HT.sIx xs.length 0 none = 0 := rfl
  have e2 : HT.sIx xs.length xs.length (some (-1)) = xs.length - 1 := by
    unfold HT.sIx
    simp
    omega
  rw [e1, e2, List.drop_zero, Nat.sub_zero, List.dropLast_eq_take]
section
variable {P : Program} {w : World} {K : PySem.W.Frag} {mg : Str → Option Value} {base : Heap} {CT CA CL CN NO : Addr}
abbrev sLines : Stmt := topS 30
theorem scLines : FnScope ["text", "lines"] ["text"] (defScope sLines) := ⟨rfl, rfl, rfl, by decide +kernel, rfl, by decide +kernel, by decide +kernel⟩
theorem ok_lines {f : Addr} {fd : FuncData} (F : Fun K "lines_of" "lines_of" sLines f fd) : FnOk P w K mg base CX0 1 f fd ["text"] spLns := by
  refine F.ok scLines (fun vs H Q E h => ?_) (fun cdv A outer s H vs Q E hr h => ?_)
  · obtain ⟨t, rfl, _⟩ := h
    rfl
  · obtain ⟨t, rfl, hl, q⟩ := h
    refine ⟨_, (pss_cons (ps_set (i := 1) scLines.nd rfl (Or.inl rfl) (pe_splitAny (pv 0) pe_str))
  (pss_one (ps_ret (pe_ifExp (pt_cmpR op_eq (pe_ix ix_list (pv 1) (pe_un un_neg pe_int) (fun _ _ => rfl)) pe_str (nomark _)) (pe_slice sl_list (pv 1) po_none (po_some (pe_un un_neg pe_int))) (pv 1))))), ?_⟩
    have hz : (Tx t).length + 2 ≤ sizeLine := by rw [tx_len, sizeLine_eq]; unfold LL at hl; omega
    have es : Txt.split (Tx t) ("\n" : Str) = (spn [] t).map Tx := by
      rw [lit_nl]
      show Txt.split (SX.S t) (SX.S [10]) = _
      rw [SX.split_S (by decide) (by decide), spn_spl]
      rfl
    refine ⟨_, rfl, ⟨_, rfl⟩, .inl ⟨_, _, rfl, rfl, (by decide +kernel), hz, fun p np => ?_⟩⟩
    rw [es]
    have ep : upd H p (HO.lst (((spn [] t).map Tx).map V.str)) p = some (HO.lst (((spn [] t).map Tx).map V.str)) := upd_same
    have s1 : Same H (upd H p (HO.lst (((spn [] t).map Tx).map V.str))) := same_upd np
    generalize upd H p (HO.lst (((spn [] t).map Tx).map V.str)) = H1 at ep s1 ⊢
    have ne : ((spn [] t).map Tx).map V.str ≠ [] := by
      intro z
      exact spn_ne t [] (List.map_eq_nil_iff.mp (List.map_eq_nil_iff.mp z))
    have el : ((spn [] t).map Tx).map V.str = (spn [] t).map fun l => V.str (Tx l) := List.map_map ..
    rw [el] at ep ne
    have nl := spn_ne t []
    obtain ⟨z, ez⟩ : ∃ z, (spn [] t).getLast? = some z := by
      cases h : (spn [] t).getLast? with
      | none => exact absurd (List.getLast?_eq_none_iff.mp h) nl
      | some z => exact ⟨z, rfl⟩
    refine ⟨_, rfl, _, rfl, p, _, -1, V.str (Tx z), rfl, rfl, SqL.of ep, (by rw [atI_last ne, List.getLast?_map, ez]; rfl), ?_⟩
    refine ⟨rfl, _, rfl, ?_⟩
    by_cases hz : z = []
    · subst hz
      rw [show decide (V.str (Tx []) = V.str ("" : Str)) = true from by decide +kernel]
      refine iteT ?_
      have e2 : lns t = (spn [] t).dropLast := by unfold lns; rw [if_pos ez]
      refine ⟨_, rfl, _, rfl, _, rfl, p, _, rfl, SqL.of ep, fun p2 np2 => ?_⟩
      refine q p2 _ (s1.trans (same_upd np2)) (s1.free np2) ?_
      rw [upd_same, cut_last, e2, List.map_dropLast]
    · rw [show decide (V.str (Tx z) = V.str ("" : Str)) = false from decide_eq_false fun y => hz (by
        have : Tx z = Tx [] := by rw [V.str.inj y]; decide +kernel
        exact tx_inj this)]
      refine iteF ?_
      have e2 : lns t = spn [] t := by unfold lns; rw [if_neg (by rw [ez]; exact fun y => hz (Option.some.inj y))]
      refine ⟨_, rfl, ?_⟩
      exact q p H1 s1 np (by rw [ep, e2])
abbrev sPars : Stmt := topS 31
theorem scPars : FnScope ["text", "parsed", "lines", "place", "line", "wrong"] ["text"] (defScope sPars) := ⟨rfl, rfl, rfl, by decide +kernel, rfl, by decide +kernel, by decide +kernel⟩
theorem ok_pars {f : Addr} {fd : FuncData} (F : Fun K "parsed_program" "parsed_program" sPars f fd) (B : Bk mg) (henum : mg "enumerate" = none) (PA_ : PaC K mg CA) (PA_I : PaM P w K mg base CA) (T : Ct P w K mg base CT CL) (G_lines_of : Df P w K mg base "lines_of" 1 ["text"] spLns)
    (M_put_line : Mx P w K mg base CA "put_line" 8 ["self", "line"] (spPLin CA CT)) : FnOk P w K mg base (L2.CX P w) 9 f fd ["text"] (spPars CA CL) := by
  refine F.okX scPars (fun vs H Q E h => ?_) (fun cdv A outer s H vs Q E hr h => ?_)
  · obtain ⟨t, rfl, _⟩ := h
    rfl
  · obtain ⟨t, rfl, hl, q⟩ := h
    refine ⟨_, (pss_cons (ps_set (i := 1) scPars.nd rfl (Or.inl rfl) (pe_make0 PA_I.mkI PA_I.ok (hr.mono (by decide)) rfl PA_.m PA_I.b .nil pass0))
  (pss_cons (ps_set (i := 2) scPars.nd rfl (Or.inl rfl) (pe_call G_lines_of.ok (hr.mono (by decide)) rfl G_lines_of.m G_lines_of.kp G_lines_of.b .nil pass0 (pa_cons (pv 0) pa_nil)))
  (pss_cons (ps_for (passes_of rfl) rfl (pi_enumK (by rfl) henum (pa_cons (pv 2) pa_nil) (pk_cons pe_int pk_nil)) (pg_tup rfl (pgs_cons (pg_name (i := 3) scPars.nd rfl (Or.inl rfl)) (pgs_cons (pg_name (i := 4) scPars.nd rfl (Or.inl rfl)) pgs_nil)))
    (pss_one (ps_try_raise (i := 5) rfl rfl rfl scPars.nd rfl rfl ⟨rfl, by decide, .inl T.mT⟩ (L2.takes_of rfl rfl rfl rfl)
      (fun W pn xe tk _ => pss_one (ps_expr (pe_methS (E := WE W) (pv 1) PA_.cl M_put_line.m M_put_line.ok (hr.mono (by decide)) M_put_line.b (fun σ => L2N.passAt tk σ) (pa_cons (pv 4) pa_nil))))
      (fun a oe cls d pn xe hz hf tk hot => pss_one (L2H.ps_raiseHN hot tk (L2H.pmk5_oexH T.L.ox T.L.iC T.L.tI T.hot (L2H.roomH_mark (hr.mono (by decide)) _) hot T.L.b pass0 (by rfl) T.L.m (pa_cons (pv 3) (pa_cons (PE.nox (pe_xf T.xf T.nC hz.zc hf (pv 5))) pa_nil))))))))
  (pss_cons (ps_if (pt_not (pt_truth (pe_fld (pv 1) rfl) (by intro _; rfl)))
    (pss_one (L2.ps_raise rfl (L2.takes_of rfl rfl rfl rfl) (pmk_oex T.L.ox T.L.iC T.L.tI T.L.ok (hr.mono (by decide)) T.L.b .nil pass0 (by rfl) T.L.m (pa_cons (pe_op op_add (pe_callB call_len_seq (by rfl) B.len (by decide +kernel) (pa_cons (pv 2) pa_nil)) pe_int) (pa_cons pe_int pa_nil)))))
    pss_nil)
  (pss_one (ps_ret (pv 1))))))), ?_⟩
    intro x dx nx ndx ne
    have s0 : Same H (upd (upd H dx (.own x)) x (.ins CA dx [])) := fun b o e => by rw [upd_ne (ne_of_none e nx), upd_ne (ne_of_none e ndx)]; exact e
    refine ⟨x, dx, rfl, upd_same, fun l1 l2 d H1 k1 hp n1 n2 n3 => ⟨rfl, ?_⟩⟩
    have s1 : Same H H1 := fun b o e => k1 b o (ne_of_none e nx) (s0 _ _ e)
    have m1 := s0.free n1
    have m2 := s0.free n2
    have m3 := s0.free n3
    refine ⟨_, rfl, t, rfl, hl, fun p H2 s2 np ep => ?_⟩
    have p1 : p ≠ l1 := fun z => by obtain ⟨rs, e, _⟩ := hp.tabs; rw [← z, np] at e; cases e
    have p2 : p ≠ l2 := fun z => by obtain ⟨rs, e, _⟩ := hp.steps; rw [← z, np] at e; cases e
    have p3 : p ≠ d := fun z => by obtain ⟨rs, e, _⟩ := hp.env; rw [← z, np] at e; cases e
    have ln := lns_num t
    refine ⟨_, rfl, true, p, _, rfl, rfl, SqL.of ep, for_enumK (xs := (lns t).map fun l => V.str (Tx l)) (fun i σ H3 => ∃ (st : Pst) (v3 v4 : Option V), σ = [some (.str (Tx t)), some (.ref x), some (.ref p), v3, v4, none] ∧ Same H H3 ∧ PsAt CA H3 x l1 l2 d st ∧ H3 p = some (.lst ((lns t).map fun l => V.str (Tx l))) ∧ st.tabs.length ≤ i ∧ st.steps.length ≤ i ∧ st.env.length ≤ i + 1 ∧ pLines 1 st0 (lns t) = pLines (i + 1) st ((lns t).drop i))
      ⟨st0, none, none, rfl, s1.trans s2, hp.same s2, ep, Nat.le_refl _, Nat.le_refl _, Nat.le_refl _, rfl⟩ (fun i σ H3 ⟨st, v3, v4, _, _, _, e, _⟩ => SqL.of e) ?_ ?_⟩
    · rintro i xv TT σ H3 hx ⟨st, v3, v4, rfl, s3, hp3, ep3, g1, g2, g3, el⟩ nT
      obtain ⟨l, hl2, rfl⟩ : ∃ l, (lns t)[i]? = some l ∧ xv = V.str (Tx l) := by
        rw [List.getElem?_map] at hx
        cases h : (lns t)[i]? with
        | none => rw [h] at hx; cases hx
        | some l => rw [h] at hx; exact ⟨l, rfl, (Option.some.inj hx).symm⟩
      obtain ⟨hi, hl3⟩ := List.getElem?_eq_some_iff.mp hl2
      have ed : (lns t).drop i = l :: (lns t).drop (i + 1) := by rw [List.drop_eq_getElem_cons hi, hl3]
      rw [ed] at el
      have el : pLines 1 st0 (lns t) = (match pLine st l with
        | .error c => .error (i + 1, c)
        | .ok st' => pLines (i + 1 + 1) st' ((lns t).drop (i + 1))) := el
      have ll : l.length ≤ t.length := lns_len (List.mem_of_getElem? hl2)
      have sT : Same H3 (upd H3 TT (.tup [.int ((i : Nat) + 1 : Int), .str (Tx l)])) := same_upd nT
      have eT : upd H3 TT (.tup [.int ((i : Nat) + 1 : Int), .str (Tx l)]) TT = some (.tup [.int ((i : Nat) + 1 : Int), .str (Tx l)]) := upd_same
      generalize upd H3 TT (.tup [.int ((i : Nat) + 1 : Int), .str (Tx l)]) = H4 at sT eT ⊢
      have hp4 := hp3.same sT
      obtain ⟨dx4, ex4⟩ := hp4.ins
      refine ⟨TT, _, rfl, SqT.of eT, rfl, _, _, rfl, _, _, rfl, rfl, ?_⟩
      have few : Few st := ⟨by unfold LL at hl ⊢; omega, by unfold LL at hl ⊢; omega, by unfold LL at hl ⊢; omega⟩
      refine ⟨_, rfl, x, dx4, _, rfl, ex4, (by kernel_rfl), _, rfl, x, l1, l2, d, st, l, rfl, hp4, few, by omega, ?_⟩
      cases hr2 : pLine st l with
      | error c =>
        rw [hr2] at el
        unfold pProg at q
        rw [el] at q
        have q : RaisesL CL H (i + 1, c) E := q
        intro dd H5 s5 nd ed5
        refine ⟨T.ex, fun a na => ?_⟩
        refine ⟨_, rfl, .ref a, rfl, rfl, rfl, dd, _, .int (c : Int), rfl, ed5, (by kernel_rfl), (by show 2 ≤ 1000; decide), ?_⟩
        exact raise_end rfl fun d2 H6 s6 nd2 e6 => q d2 H6 (((s3.trans sT).trans s5).trans s6) (((s3.trans sT).trans s5).free nd2) e6
      | ok st' =>
        rw [hr2] at el
        have gr := grow hr2
        intro H5 fr hp5
        refine ⟨st', _, _, rfl, fun b o e => fr b o (ne_of_none e m1) (ne_of_none e m2) (ne_of_none e m3) (sT _ _ (s3 _ _ e)), hp5, fr _ _ p1 p2 p3 (sT _ _ ep3), by omega, by omega, by omega, el⟩
    · rintro σ H3 ⟨st, v3, v4, rfl, s3, hp3, ep3, g1, g2, g3, el⟩
      rw [List.length_map, List.drop_length] at el
      have el : pLines 1 st0 (lns t) = .ok st := el
      unfold pProg at q
      rw [el] at q
      have q : TellsL CL H (if st.steps = [] then .error ((lns t).length + 1, 1) else .ok st) E _ := q
      obtain ⟨dx3, ex3⟩ := hp3.ins
      obtain ⟨srs, es1, es2⟩ := hp3.steps
      have lt := es2.len
      by_cases hs : st.steps = []
      · rw [if_pos hs] at q
        have sr : srs = [] := List.length_eq_zero_iff.mp (by rw [lt, hs]; rfl)
        refine ⟨_, rfl, x, CA, dx3, _, .ref l2, rfl, ex3, PA_.cl, PA_.nS, (by kernel_rfl), false, .inl ⟨_, SqL.of es1, by rw [sr]; rfl⟩, ?_⟩
        refine iteT ?_
        refine ⟨_, rfl, p, _, rfl, .inl (SqL.of ep3), ?_⟩
        rw [List.length_map]
        refine ⟨_, _, rfl, rfl, (by show 2 ≤ 1000; decide), ?_⟩
        exact raise_end rfl fun d2 H6 s6 nd2 e6 => q d2 H6 (s3.trans s6) (s3.free nd2) e6
      · rw [if_neg hs] at q
        refine ⟨_, rfl, x, CA, dx3, _, .ref l2, rfl, ex3, PA_.cl, PA_.nS, (by kernel_rfl), true, .inl ⟨_, SqL.of es1, by cases srs with | nil => exact absurd (List.length_eq_zero_iff.mp (by rw [← lt]; rfl)) hs | cons a b => rfl⟩, ?_⟩
        refine iteF ?_
        exact ⟨_, rfl, q x l1 l2 d H3 s3 hp3 nx⟩
end

end Vf

set_option maxRecDepth 100000
set_option maxHeartbeats 8000000
namespace Vf
open PySem PySem.Spec PyProof.Rows L2
/-! ### a program as it is made, and what it tells -/
def BigZ : Nat := 9000
def oVal (fs : List Int) : Opd → Option Int
  | .num z => if z.natAbs < 2 ^ BigZ then some z else none
  | .plc i => fs[i]?
theorem oVal_big {fs : List Int} (h : ∀ m ∈ fs, m.natAbs < 2 ^ BigZ) {o : Opd} {n : Int} (e : oVal fs o = some n) : n.natAbs < 2 ^ BigZ := by
  cases o with
  | num z =>
    have e : (if z.natAbs < 2 ^ BigZ then some z else none) = some n := e
    split at e
    · cases e; assumption
    · cases e
  | plc i => exact h n (List.mem_of_getElem? e)
def shf (sg : List Nat) (n : Int) (c : Nat) : Int := if sg = [60, 60] then n * 2 ^ c else if sg = [62, 62] then n / 2 ^ c else if sg = [38] then n % 2 ^ c else n
def jnd (sg : List Nat) (a b : Int) : Int := if sg = [43] then a + b else if sg = [45] then a - b else a * b
/-- one step: none where it is not told, some none where a table is too narrow -/
def stp (tabs : List (List Int)) (fs : List Int) (s : Stp) : Option (Option Int) := match oVal fs s.one with
  | none => none
  | some n =>
    if s.sign = [91] then (match s.oth with
      | .cnt i => (match tabs[i]? with
        | none => none
        | some ns => if 0 ≤ n ∧ n < ns.length then some ns[n.toNat]? else some none)
      | _ => none)
    else if s.sign = [60, 60] ∨ s.sign = [62, 62] ∨ s.sign = [38] ∨ s.sign = [] then (match s.oth with
      | .cnt c => if c ≤ 60 then some (some (shf s.sign n c)) else none
      | .non => if s.sign = [] then some (some n) else none
      | _ => none)
    else (match s.oth with
      | .opd o => (match oVal fs o with
        | some m => some (some (jnd s.sign n m))
        | none => none)
      | _ => none)
def runs (tabs : List (List Int)) : List Int → List Stp → Option (Option (List Int))
  | fs, [] => some (some fs)
  | fs, s :: ss => match stp tabs fs s with
    | none => none
    | some none => some none
    | some (some z) => if z.natAbs < 2 ^ BigZ then runs tabs (fs ++ [z]) ss else none
theorem shl_fine {z : Int} {c : Nat} (h : z.natAbs < 2 ^ BigZ) (hc : c ≤ 60) : CShl z (c : Int) := by
  refine ⟨Int.natCast_nonneg _, ?_⟩
  unfold Builtin.Int.intBits
  split
  · show (0 : Int) + c ≤ 2 ^ 27
    omega
  · rename_i n0
    have z0 : z.natAbs ≠ 0 := fun e => n0 (by rw [beq_iff_eq]; omega)
    have := (Nat.log2_lt z0).mpr h
    unfold BigZ at this
    omega
def spShf : Sp := fun vs H Q _ => ∃ (sg : List Nat) (n : Int) (v : V), vs = [.str (Tx sg), .int n, v] ∧ ((∃ c : Nat, v = .int (c : Int) ∧ c ≤ 60 ∧ n.natAbs < 2 ^ BigZ ∧ Q (.int (shf sg n c)) H) ∨ (sg = [] ∧ Q (.int n) H))
def spJnd : Sp := fun vs H Q _ => ∃ (sg : List Nat) (a b : Int), vs = [.str (Tx sg), .int a, .int b] ∧ a.natAbs < 2 ^ BigZ ∧ b.natAbs < 2 ^ BigZ ∧ Q (.int (jnd sg a b)) H
def inputD : PyData → Bool
  | .int z => decide (0 ≤ z)
  | _ => false
def spNeedX (K : PySem.W.Frag) (CN : Addr) : Sp := fun vs H Q E => ∃ (v : V) (d : PyData), vs = [v] ∧ Dt K H v d ∧ (inputD d = true → Q .non H) ∧ (inputD d = false → RaisesN CN H (.str "x") v E)
theorem lit_shl : ("<<" : Str) = Tx [60, 60] := by decide +kernel
theorem lit_shr : (">>" : Str) = Tx [62, 62] := by decide +kernel
theorem lit_pls : ("+" : Str) = Tx [43] := by decide +kernel
theorem lit_mns : ("-" : Str) = Tx [45] := by decide +kernel
section
variable {P : Program} {w : World} {K : PySem.W.Frag} {mg : Str → Option Value} {base : Heap} {CT CA CL CN NO : Addr}
abbrev sNI : Stmt := topS 34
theorem scNI : FnScope ["x"] ["x"] (defScope sNI) := ⟨rfl, rfl, rfl, by decide +kernel, rfl, by decide +kernel, by decide +kernel⟩
theorem ok_ni {f : Addr} {fd : FuncData} (F : Fun K "need_input" "need_input" sNI f fd) (N_BadNumber : Ex P w K mg base "BadNumber" CN ["what", "number"]) (G_is_whole_from : Df P w K mg base "is_whole_from" 2 ["value", "least"] (spFrom K)) : FnOk P w K mg base (L2.CX P w) 3 f fd ["x"] (spNeedX K CN) := by
  refine F.okX scNI (fun vs H Q E h => ?_) (fun cdv A outer s H vs Q E hr h => ?_)
  · obtain ⟨v, d, rfl, _⟩ := h
    rfl
  · obtain ⟨v, d, rfl, hd, q1, q2⟩ := h
    refine ⟨_, (pss_one (ps_if (pt_not (pt_val (pe_call G_is_whole_from.ok (hr.mono (by decide)) rfl G_is_whole_from.m G_is_whole_from.kp G_is_whole_from.b .nil pass0 (pa_cons (pv 0) (pa_cons pe_int pa_nil)))))
    (pss_one (ps_raise rfl (takes_of rfl rfl rfl rfl) (pmk_oex N_BadNumber.ox N_BadNumber.iC N_BadNumber.tI N_BadNumber.ok (hr.mono (by decide)) N_BadNumber.b .nil pass0 (by rfl) N_BadNumber.m (pa_cons pe_str (pa_cons (pv 0) pa_nil)))))
    pss_nil)), ?_⟩
    refine ⟨_, rfl, v, d, 0, rfl, hd, ?_⟩
    cases hd with
    | int i =>
      refine ⟨decide (0 ≤ i), rfl, ?_⟩
      by_cases h0 : 0 ≤ i
      · rw [decide_eq_true h0]
        exact iteF (q1 (decide_eq_true h0))
      · rw [decide_eq_false h0]
        refine iteT ?_
        refine ⟨_, rfl, (by show 2 ≤ 1000; decide), ?_⟩
        exact raise_end rfl fun dd H' s2 n e2 => q2 (decide_eq_false h0) dd H' s2 n e2
    | _ =>
      refine ⟨false, rfl, ?_⟩
      refine iteT ?_
      refine ⟨_, rfl, (by show 2 ≤ 1000; decide), ?_⟩
      exact raise_end rfl fun dd H' s2 n e2 => q2 rfl dd H' s2 n e2
abbrev sShf : Stmt := topS 35
theorem scShf : FnScope ["sign", "number", "count"] ["sign", "number", "count"] (defScope sShf) := ⟨rfl, rfl, rfl, by decide +kernel, rfl, by decide +kernel, by decide +kernel⟩
theorem ok_shf {f : Addr} {fd : FuncData} (F : Fun K "shifted" "shifted" sShf f fd) : FnOk P w K mg base CX0 1 f fd ["sign", "number", "count"] spShf := by
  refine F.ok scShf (fun vs H Q E h => ?_) (fun cdv A outer s H vs Q E hr h => ?_)
  · obtain ⟨sg, n, v, rfl, _⟩ := h
    rfl
  · obtain ⟨sg, n, v, rfl, h⟩ := h
    refine ⟨_, (pss_cons (ps_if (pt_cmpR op_eq (pv 0) pe_str (nomark _))
    (pss_one (ps_ret (pe_op op_shlW (pv 1) (pv 2))))
    pss_nil)
  (pss_cons (ps_if (pt_cmpR op_eq (pv 0) pe_str (nomark _))
    (pss_one (ps_ret (pe_op op_shrN (pv 1) (pv 2))))
    pss_nil)
  (pss_one (ps_ret (pe_ifExp (pt_cmpR op_eq (pv 0) pe_str (nomark _)) (pe_op op_andM (pv 1) (pe_op op_sub (pe_op op_shlW pe_int (pv 2)) pe_int)) (pv 1)))))), ?_⟩
    refine ⟨_, rfl, rfl, _, rfl, ?_⟩
    rw [lit_shl, tx_eq]
    rcases h with ⟨c, rfl, hc, hn, q⟩ | ⟨rfl, q⟩
    · unfold shf at q
      by_cases h1 : sg = [60, 60]
      · rw [if_pos h1] at q
        rw [decide_eq_true h1]
        refine iteT ?_
        refine ⟨_, rfl, _, rfl, _, _, rfl, rfl, shl_fine hn hc, ?_⟩
        show Q (.int (n * 2 ^ ((c : Int).toNat))) H
        rw [Int.toNat_natCast]
        exact q
      · rw [if_neg h1] at q
        rw [decide_eq_false h1]
        refine iteF ?_
        refine ⟨_, rfl, rfl, _, rfl, ?_⟩
        rw [lit_shr, tx_eq]
        by_cases h2 : sg = [62, 62]
        · rw [if_pos h2] at q
          rw [decide_eq_true h2]
          refine iteT ?_
          refine ⟨_, rfl, _, rfl, _, c, rfl, rfl, ?_⟩
          exact q
        · rw [if_neg h2] at q
          rw [decide_eq_false h2]
          refine iteF ?_
          refine ⟨_, rfl, rfl, _, rfl, ?_⟩
          rw [lit_amp, tx_eq]
          by_cases h3 : sg = [38]
          · rw [if_pos h3] at q
            rw [decide_eq_true h3]
            refine iteT ?_
            refine ⟨_, rfl, _, rfl, _, _, rfl, rfl, shl_fine (by decide +kernel) hc, _, _, rfl, rfl, n, c, rfl, ?_, ?_⟩
            · rw [Int.toNat_natCast, Int.one_mul]
            · exact q
          · rw [if_neg h3] at q
            rw [decide_eq_false h3]
            refine iteF ?_
            exact ⟨_, rfl, q⟩
    · rw [decide_eq_false (by decide)]
      refine iteF ?_
      refine ⟨_, rfl, rfl, _, rfl, ?_⟩
      rw [lit_shr, tx_eq, decide_eq_false (by decide)]
      refine iteF ?_
      refine ⟨_, rfl, rfl, _, rfl, ?_⟩
      rw [lit_amp, tx_eq, decide_eq_false (by decide)]
      refine iteF ?_
      exact ⟨_, rfl, q⟩
abbrev sJnd : Stmt := topS 36
theorem scJnd : FnScope ["sign", "number", "other"] ["sign", "number", "other"] (defScope sJnd) := ⟨rfl, rfl, rfl, by decide +kernel, rfl, by decide +kernel, by decide +kernel⟩
theorem ok_jnd {f : Addr} {fd : FuncData} (F : Fun K "joined_numbers" "joined_numbers" sJnd f fd) : FnOk P w K mg base CX0 1 f fd ["sign", "number", "other"] spJnd := by
  refine F.ok scJnd (fun vs H Q E h => ?_) (fun cdv A outer s H vs Q E hr h => ?_)
  · obtain ⟨sg, a, b, rfl, _⟩ := h
    rfl
  · obtain ⟨sg, a, b, rfl, ha, hb, q⟩ := h
    refine ⟨_, (pss_cons (ps_if (pt_cmpR op_eq (pv 0) pe_str (nomark _))
    (pss_one (ps_ret (pe_op op_add (pv 1) (pv 2))))
    pss_nil)
  (pss_one (ps_ret (pe_ifExp (pt_cmpR op_eq (pv 0) pe_str (nomark _)) (pe_op op_sub (pv 1) (pv 2)) (pe_op op_mulW (pv 1) (pv 2)))))), ?_⟩
    refine ⟨_, rfl, rfl, _, rfl, ?_⟩
    rw [lit_pls, tx_eq]
    unfold jnd at q
    by_cases h1 : sg = [43]
    · rw [if_pos h1] at q
      rw [decide_eq_true h1]
      refine iteT ?_
      exact ⟨_, rfl, _, rfl, _, _, rfl, rfl, q⟩
    · rw [if_neg h1] at q
      rw [decide_eq_false h1]
      refine iteF ?_
      refine ⟨_, rfl, rfl, _, rfl, ?_⟩
      rw [lit_mns, tx_eq]
      by_cases h2 : sg = [45]
      · rw [if_pos h2] at q
        rw [decide_eq_true h2]
        refine iteT ?_
        exact ⟨_, rfl, _, rfl, _, _, rfl, rfl, q⟩
      · rw [if_neg h2] at q
        rw [decide_eq_false h2]
        refine iteF ?_
        exact ⟨_, rfl, _, rfl, _, _, rfl, rfl, wide_mul ha hb (by decide) (by decide) (by decide), q⟩
end

end Vf

set_option maxRecDepth 100000
set_option maxHeartbeats 8000000
namespace Vf
open PySem PySem.Spec PyProof.Rows L2
/-! ### class Program, as it is made -/
def flP (t : List Nat) (T S N : Addr) : List (Str × V) := [("text", .str (Tx t)), ("tables", .ref T), ("steps", .ref S), ("names", .ref N)]
structure PrAt (CP : Addr) (H : Hp) (x : Addr) (t : List Nat) (tbs : List (List Int)) (sps : List Stp) (T S N : Addr) : Prop where
  ins : ∃ dx, H x = some (.ins CP dx (flP t T S N))
  tabs : ∃ rs, H T = some (.tup (rs.map V.ref)) ∧ All2 (TabAt H) rs tbs
  steps : ∃ rs, H S = some (.tup (rs.map V.ref)) ∧ All2 (StpAt H) rs sps
  names : H N = some (.tup (sps.map fun s => V.str (Tx s.name)))
theorem PrAt.same {CP : Addr} {H H' : Hp} {x T S N : Addr} {t : List Nat} {tbs : List (List Int)} {sps : List Stp} (h : PrAt CP H x t tbs sps T S N) (s : Same H H') : PrAt CP H' x t tbs sps T S N where
  ins := h.ins.imp fun _ z => s _ _ z
  tabs := h.tabs.imp fun _ z => ⟨s _ _ z.1, z.2.imp fun r x y => s _ _ y⟩
  steps := h.steps.imp fun _ z => ⟨s _ _ z.1, z.2.imp fun r x y => y.up (.of s)⟩
  names := s _ _ h.names
structure PrC (K : PySem.W.Frag) (mg : Str → Option Value) (CP : Addr) : Prop where
  m : mg "Program" = some (.ref CP)
  cl : Cls K CP
  nX : NoAttr K CP "text"
  nT : NoAttr K CP "tables"
  nS : NoAttr K CP "steps"
  nN : NoAttr K CP "names"
theorem lines_steps : ∀ {ls : List (List Nat)} {k : Nat} {st st' : Pst}, pLines k st ls = .ok st' → st'.steps.length ≤ st.steps.length + ls.length
  | [], k, st, st', h => by cases h; exact Nat.le_refl _
  | l :: ls, k, st, st', h => by
    have h : (match pLine st l with | .error c => .error (k, c) | .ok st1 => pLines (k + 1) st1 ls : Except (Nat × Nat) Pst) = .ok st' := h
    cases e : pLine st l with
    | error c => rw [e] at h; cases h
    | ok st1 =>
      rw [e] at h
      have := lines_steps (ls := ls) h
      have := (grow e).2.1
      rw [List.length_cons]
      omega
theorem prog_steps {t : List Nat} {st : Pst} (h : pProg t = .ok st) : st.steps.length ≤ t.length + 1 := by
  unfold pProg at h
  cases e : pLines 1 st0 (lns t) with
  | error c => rw [e] at h; cases h
  | ok st1 =>
    rw [e] at h
    have h : (if st1.steps = [] then .error ((lns t).length + 1, 1) else .ok st1 : Except (Nat × Nat) Pst) = .ok st := h
    split at h
    · cases h
    · cases h
      have := lines_steps e
      have := lns_num t
      have e0 : st0.steps.length = 0 := rfl
      omega
def strD : PyData → Bool
  | .str _ => true
  | _ => false
theorem kit_str {K : PySem.W.Frag} (d : PyData) : PySem.W.kitOne K (.type (tyD d)) (.type "str") = some (strD d) := by
  cases d with
  | none => exact kit_ty (show kitB "NoneType" "str" = some false by decide +kernel)
  | bool _ => exact kit_ty (show kitB "bool" "str" = some false by decide +kernel)
  | int _ => exact kit_ty (show kitB "int" "str" = some false by decide +kernel)
  | str _ => exact kit_ty (show kitB "str" "str" = some true by decide +kernel)
  | list _ => exact kit_ty (show kitB "list" "str" = some false by decide +kernel)
  | tuple _ => exact kit_ty (show kitB "tuple" "str" = some false by decide +kernel)
  | dict _ => exact kit_ty (show kitB "dict" "str" = some false by decide +kernel)
def spPrI (K : PySem.W.Frag) (CP CL : Addr) : Sp := fun vs H Q E => ∃ (x dx : Addr) (v : V) (d : PyData), vs = [.ref x, v] ∧ H x = some (.ins CP dx []) ∧ Dt K H v d ∧
  (∀ t, d = .str (Tx t) → t.length + 2 ≤ LL ∧ TellsL CL H (pProg t) E fun st => ∀ (T S N : Addr) (H' : Hp), Kp x H H' → PrAt CP H' x t st.tabs st.steps T S N → Q .non H') ∧ (strD d = false → RaisesL CL H (0, 0) E)
theorem putF_last {f : Str} {v : V} : ∀ {fs : List (Str × V)}, f ∉ fs.map (·.1) → putF f v fs = fs ++ [(f, v)]
  | [], _ => rfl
  | (n, x) :: fs, h => by
    show (if n = f then (n, v) :: fs else (n, x) :: putF f v fs) = _
    rw [if_neg (fun z => h (by rw [z]; exact List.mem_cons_self)), putF_last fun z => h (List.mem_cons_of_mem _ z)]
    rfl
section
variable {P : Program} {w : World} {K : PySem.W.Frag} {mg : Str → Option Value} {base : Heap} {CT CA CL CN NO CP : Addr}
abbrev sPrI : Stmt := inClass (topS 33) 0
theorem scPrI : FnScope ["self", "text", "parsed", "step"] ["self", "text"] (defScope sPrI) := ⟨rfl, rfl, rfl, by decide +kernel, rfl, by decide +kernel, by decide +kernel⟩
theorem ok_pri {f : Addr} {fd : FuncData} (F : Fun K "__init__" "Program.__init__" sPrI f fd) (T : Bk mg) (PA_ : PaC K mg CA) (PR_ : PrC K mg CP) (N_BadLine : Ex P w K mg base "BadLine" CL ["line", "column"]) (G_parsed_program : Dx P w K mg base "parsed_program" 9 ["text"] (spPars CA CL)) : FnOk P w K mg base (L2.CX P w) 10 f fd ["self", "text"] (spPrI K CP CL) := by
  refine F.okX scPrI (fun vs H Q E h => ?_) (fun cdv A outer s H vs Q E hr h => ?_)
  · obtain ⟨x, dx, v, d, rfl, _⟩ := h
    rfl
  · obtain ⟨x, dx, v, d, rfl, hx, hd, h1, h2⟩ := h
    refine ⟨_, (pss_cons (ps_if (pt_not (pt_val (pe_callB call_isi (by rfl) T.isinstance (by decide +kernel) (pa_cons (pv 1) (pa_cons (pe_bltn (v := V.ty "str") (by rfl) T.str (by decide +kernel) rfl) pa_nil)))))
    (pss_one (ps_raise rfl (takes_of rfl rfl rfl rfl) (pmk_oex N_BadLine.ox N_BadLine.iC N_BadLine.tI N_BadLine.ok (hr.mono (by decide)) N_BadLine.b .nil pass0 (by rfl) N_BadLine.m (pa_cons pe_int (pa_cons pe_int pa_nil)))))
    pss_nil)
  (pss_cons (ps_set (i := 2) scPrI.nd rfl (Or.inl rfl) (pe_call G_parsed_program.ok (hr.mono (by decide)) rfl G_parsed_program.m G_parsed_program.kp G_parsed_program.b .nil (E := E) (L2.passes_call (L2.takes_of rfl rfl rfl rfl) (fun _ _ _ _ h => h)) (pa_cons (pv 1) pa_nil)))
  (pss_cons (ps_fld (pv 0) (pv 1) rfl)
  (pss_cons (ps_fld (pv 0) (pe_callTy call_tuple_of (by rfl) T.tuple (by decide +kernel) (pa_cons (pe_fld (pv 2) rfl) pa_nil)) rfl)
  (pss_cons (ps_fld (pv 0) (pe_callTy call_tuple_of (by rfl) T.tuple (by decide +kernel) (pa_cons (pe_fld (pv 2) rfl) pa_nil)) rfl)
  (pss_one (ps_fld (pv 0) (pe_callTy call_tuple_of (by rfl) T.tuple (by decide +kernel) (pa_cons (pe_lc (own := [("step", 3)]) (g := (gName 3)) (tt := tYes) rfl scPrI.nd (pi_seq (pe_fld (pv 2) rfl)) (blkOk_by (N := ["self", "text", "parsed", "step"]) (sc := defScope sPrI) (by decide +kernel)) (fun _ _ _ _ _ => pg_name (i := 3) scPrI.nd rfl (Or.inl rfl)) (fun _ _ _ _ _ => pts_nil) (fun _ _ _ _ _ => (pe_ix (r := rIxT K) ix_tup (pv 3) pe_int (fun _ _ => rfl)))) pa_nil)) rfl))))))), ?_⟩
    refine ⟨_, rfl, v, .ty "str", _, .type "str", _, rfl, .ty _, hd.ty, kit_str d, _, rfl, ?_⟩
    cases hd with
    | str z =>
      refine iteF ?_
      obtain ⟨t, rfl⟩ := tx_of z
      obtain ⟨hl, q⟩ := h1 t rfl
      refine ⟨_, rfl, t, rfl, hl, ?_⟩
      cases hp : pProg t with
      | error e => rw [hp] at q; exact q
      | ok st =>
        rw [hp] at q
        have q : ∀ (T S N : Addr) (H' : Hp), Kp x H H' → PrAt CP H' x t st.tabs st.steps T S N → Q .non H' := q
        intro y l1 l2 d H1 s1 py ny
        have hx1 := s1 _ _ hx
        have yx : y ≠ x := fun z => by rw [z, hx] at ny; cases ny
        obtain ⟨dy, ey⟩ := py.ins
        obtain ⟨trs, et1, et2⟩ := py.tabs
        obtain ⟨srs, es1, es2⟩ := py.steps
        have l1x : l1 ≠ x := ne_of et1 hx1 (by intro z; cases z)
        have l2x : l2 ≠ x := ne_of es1 hx1 (by intro z; cases z)
        have tux : ∀ {b : Addr} {xs : List V}, H1 b = some (.tup xs) → b ≠ x := fun e => ne_of e hx1 (by intro z; cases z)
        -- the text
        refine ⟨_, rfl, _, rfl, x, CP, dx, [], rfl, hx1, PR_.cl, PR_.nX, (by show 0 < 1000; decide), ?_⟩
        have hp1 : putF "text" (V.str (Tx t)) [] = [(("text" : Str), V.str (Tx t))] := rfl
        rw [hp1]
        have gx1 : upd H1 x (HO.ins CP dx [("text", V.str (Tx t))]) x = some (HO.ins CP dx [("text", V.str (Tx t))]) := upd_same
        have k1 : Kp x H1 (upd H1 x (HO.ins CP dx [("text", V.str (Tx t))])) := fun b o n e => by rw [upd_ne n]; exact e
        generalize upd H1 x (HO.ins CP dx [("text", V.str (Tx t))]) = G1 at gx1 k1 ⊢
        -- the tables
        refine ⟨_, rfl, y, CA, dy, _, .ref l1, rfl, k1 _ _ yx ey, PA_.cl, PA_.nT, (by kernel_rfl), l1, _, rfl, .inl ⟨SqL.of (k1 _ _ l1x et1), fun T nT => ?_⟩⟩
        have eT : upd G1 T (HO.tup (trs.map V.ref)) T = some (HO.tup (trs.map V.ref)) := upd_same
        have s2 : Same G1 (upd G1 T (HO.tup (trs.map V.ref))) := same_upd nT
        have Tx_ : T ≠ x := ne_of_none gx1 nT |>.symm
        generalize upd G1 T (HO.tup (trs.map V.ref)) = H2 at eT s2 ⊢
        refine ⟨_, rfl, x, CP, dx, _, rfl, s2 _ _ gx1, PR_.cl, PR_.nT, (by show 1 < 1000; decide), ?_⟩
        have hp2 : putF "tables" (V.ref T) [(("text" : Str), V.str (Tx t))] = [(("text" : Str), V.str (Tx t)), ("tables", V.ref T)] := putF_last (show ("tables" : Str) ∉ [("text" : Str)] from by decide +kernel)
        rw [hp2]
        have gx2 : upd H2 x (HO.ins CP dx [("text", V.str (Tx t)), ("tables", V.ref T)]) x = some (HO.ins CP dx [("text", V.str (Tx t)), ("tables", V.ref T)]) := upd_same
        have k2 : Kp x G1 (upd H2 x (HO.ins CP dx [("text", V.str (Tx t)), ("tables", V.ref T)])) := fun b o n e => by rw [upd_ne n]; exact s2 _ _ e
        have eT2 : upd H2 x (HO.ins CP dx [("text", V.str (Tx t)), ("tables", V.ref T)]) T = some (HO.tup (trs.map V.ref)) := by rw [upd_ne Tx_]; exact eT
        generalize upd H2 x (HO.ins CP dx [("text", V.str (Tx t)), ("tables", V.ref T)]) = G2 at gx2 k2 eT2 ⊢
        have k12 := k1.trans k2
        -- the steps
        refine ⟨_, rfl, y, CA, dy, _, .ref l2, rfl, k12 _ _ yx ey, PA_.cl, PA_.nS, (by kernel_rfl), l2, _, rfl, .inl ⟨SqL.of (k12 _ _ l2x es1), fun S nS => ?_⟩⟩
        have eS : upd G2 S (HO.tup (srs.map V.ref)) S = some (HO.tup (srs.map V.ref)) := upd_same
        have s3 : Same G2 (upd G2 S (HO.tup (srs.map V.ref))) := same_upd nS
        have Sx_ : S ≠ x := ne_of_none gx2 nS |>.symm
        generalize upd G2 S (HO.tup (srs.map V.ref)) = H3 at eS s3 ⊢
        refine ⟨_, rfl, x, CP, dx, _, rfl, s3 _ _ gx2, PR_.cl, PR_.nS, (by show 2 < 1000; decide), ?_⟩
        have hp3 : putF "steps" (V.ref S) [(("text" : Str), V.str (Tx t)), ("tables", V.ref T)] = [(("text" : Str), V.str (Tx t)), ("tables", V.ref T), ("steps", V.ref S)] := putF_last (show ("steps" : Str) ∉ [("text" : Str), "tables"] from by decide +kernel)
        rw [hp3]
        have gx3 : upd H3 x (HO.ins CP dx [("text", V.str (Tx t)), ("tables", V.ref T), ("steps", V.ref S)]) x = some (HO.ins CP dx [("text", V.str (Tx t)), ("tables", V.ref T), ("steps", V.ref S)]) := upd_same
        have k3 : Kp x G2 (upd H3 x (HO.ins CP dx [("text", V.str (Tx t)), ("tables", V.ref T), ("steps", V.ref S)])) := fun b o n e => by rw [upd_ne n]; exact s3 _ _ e
        have eS3 : upd H3 x (HO.ins CP dx [("text", V.str (Tx t)), ("tables", V.ref T), ("steps", V.ref S)]) S = some (HO.tup (srs.map V.ref)) := by rw [upd_ne Sx_]; exact eS
        generalize upd H3 x (HO.ins CP dx [("text", V.str (Tx t)), ("tables", V.ref T), ("steps", V.ref S)]) = G3 at gx3 k3 eS3 ⊢
        have k13 := k12.trans k3
        have lt := es2.len
        -- the names
        have fin : ∀ (D : Addr) (H5 : Hp), G3 D = none → Same G3 H5 → H5 D = some (.lst (st.steps.map fun s => V.str (Tx s.name))) → ∀ (N : Addr), H5 N = none → Q .non (upd (upd H5 N (.tup (st.steps.map fun s => V.str (Tx s.name)))) x (HO.ins CP dx (flP t T S N))) := fun D H5 nD s5 eD N nN => by
          have Nx : N ≠ x := fun z => by rw [z, s5 _ _ gx3] at nN; cases nN
          have k5 : Kp x G3 (upd (upd H5 N (.tup (st.steps.map fun s => V.str (Tx s.name)))) x (HO.ins CP dx (flP t T S N))) := fun b o n e => by
            rw [upd_ne n, upd_ne (ne_of_none (s5 _ _ e) nN)]
            exact s5 _ _ e
          have k15 := k13.trans k5
          have tu : TupS H1 (upd (upd H5 N (.tup (st.steps.map fun s => V.str (Tx s.name)))) x (HO.ins CP dx (flP t T S N))) := fun b xs e => k15 _ _ (tux e) e
          refine q T S N _ (fun b o n e => k15 _ _ n (s1 _ _ e)) ⟨⟨dx, upd_same⟩, ⟨trs, k5 _ _ Tx_ (k3 _ _ Tx_ eT2), et2.imp fun r x z => tu _ _ z⟩, ⟨srs, k5 _ _ Sx_ eS3, es2.imp fun r x z => z.up tu⟩, ?_⟩
          rw [upd_ne Nx]
          exact upd_same
        refine ⟨_, rfl, y, CA, dy, _, .ref l2, rfl, k13 _ _ yx ey, PA_.cl, PA_.nS, (by kernel_rfl), l2, rfl, lc_seq (xs := srs.map V.ref) (.inl (SqL.of (k13 _ _ l2x es1))) (fun D i H4 => Same G3 H4 ∧ H4 D = some (.lst ((st.steps.take i).map fun s => V.str (Tx s.name)))) ?_ ?_ ?_ ?_⟩
        · intro D nD
          exact ⟨same_upd nD, upd_same⟩
        · intro D i H4 nD ⟨s4, _⟩
          exact ⟨same_sqL s4, same_sqT s4⟩
        · intro D i xv H4 nD hi ⟨s4, eD⟩
          obtain ⟨r, hr1, rfl⟩ : ∃ r, srs[i]? = some r ∧ xv = V.ref r := by
            rw [List.getElem?_map] at hi
            cases h : srs[i]? with
            | none => rw [h] at hi; cases hi
            | some r => rw [h] at hi; exact ⟨r, rfl, (Option.some.inj hi).symm⟩
          obtain ⟨sp, hs1, ra, vo, er, _⟩ := es2.at hr1
          have ilt := (List.getElem?_eq_some_iff.mp hs1).1
          have er4 := s4 _ _ (k13 _ _ (tux er) er)
          refine ⟨rfl, ?_⟩
          refine ⟨_, rfl, r, _, 0, V.str (Tx sp.name), rfl, rfl, SqT.of er4, rfl, ?_⟩
          refine ⟨_, eD, (by rw [List.length_map, List.length_take, sizeLine_eq]; have := prog_steps hp; unfold LL at hl; omega), fun b o e => ?_, ?_⟩
          · rw [upd_ne (ne_of_none e nD)]
            exact s4 _ _ e
          · rw [upd_same, List.take_succ_eq_append_getElem ilt, List.map_append, (List.getElem?_eq_some_iff.mp hs1).2]
            rfl
        · intro D H4 nD ⟨s4, eD⟩
          rw [List.length_map, lt, List.take_length] at eD
          refine ⟨D, _, rfl, .inl ⟨SqL.of eD, fun N nN => ?_⟩⟩
          have eN : upd H4 N (HO.tup (st.steps.map fun s => V.str (Tx s.name))) N = some (HO.tup (st.steps.map fun s => V.str (Tx s.name))) := upd_same
          have hp4 : putF "names" (V.ref N) [(("text" : Str), V.str (Tx t)), ("tables", V.ref T), ("steps", V.ref S)] = flP t T S N := putF_last (show ("names" : Str) ∉ [("text" : Str), "tables", "steps"] from by decide +kernel)
          refine ⟨_, rfl, x, CP, dx, _, rfl, (same_upd nN) _ _ (s4 _ _ gx3), PR_.cl, PR_.nN, (by show 3 < 1000; decide), ?_⟩
          rw [hp4]
          exact fin D H4 nD s4 eD N nN
    | _ =>
      refine iteT ?_
      refine ⟨(by show 2 ≤ 1000; decide), ?_⟩
      exact raise_end rfl fun dd H' s3 n e3 => h2 rfl dd H' s3 n e3
end

end Vf

set_option maxRecDepth 100000
set_option maxHeartbeats 8000000
namespace Vf
open PySem PySem.Spec PyProof.Rows L2
/-! ### what a Program tells for an input -/
structure Tw (K : PySem.W.Frag) (mg : Str → Option Value) (C : Addr) : Prop where
  m : mg "TooWide" = some (.ref C)
  q : PySem.W.excIn K C [.type "ValueError", .type "Exception", .type "BaseException", .type "object"] "ValueError.__new__" = true
  exC : PySem.W.subIn K (.ref C) (.type "BaseException") = some true
  tyC : PySem.W.typeIn K (.ref C) = some (.type "type")
  kC : PySem.W.keepIn K (.ref C) = true
/-- raise C(), C a class of the text without an __init__ of its own -/
theorem pmk_own0 {X : Cx} {C : Addr} {bmB : List Value} {B newId initId : String} {x : Str} {p pos : Pos} (F : ExcBaseFacts B newId initId bmB) (q : PySem.W.excIn X.K C bmB newId = true) (gC : X.mg x = some (.ref C))
    (kC : PySem.W.keepIn X.K (.ref C) = true) (r : Raises X (.ref C)) (hg : Gl X x) (hdb : (x == ("__debug__" : Str)) = false := by decide) :
    PMk X (.Call (.Name x p) [] [] pos) (fun _ H Q => Q (.ref C) none H) := by
  intro pins s σ H Q I h
  refine wpAny_Call_Name_kw (ld_glob I hg gC ?_ hdb)
  refine PySem.W.callWith_K0 I.kIn kC ?_
  show wpAny _ _ (call (.ref C) []) _ _ _
  obtain ⟨bm, N, nm, qn, bs, hdct, sn, sub, ab, col, dd, c0, c1, c2, c3, c5, mN, hC, hN, hni, T⟩ := exc_obj I.kIn q
  refine wpAny_call_exc_subT F T hC hN hni (fun h' e hm => ?_) (by show 0 ≤ sizeLine; exact Nat.zero_le _)
  exact mk_of I hm r h (I.hok.gone hm.new)
theorem atI_nat {xs : List V} {k : Nat} {v : V} (h : xs[k]? = some v) : atI xs (k : Int) = some v := by
  have lt := (List.getElem?_eq_some_iff.mp h).1
  unfold atI ixN
  rw [if_pos (Int.natCast_nonneg _), if_pos (by omega), Int.toNat_natCast]
  exact h
/-- a method of the text that may raise, whatever it raises -/
structure Mr (P : Program) (w : World) (K : PySem.W.Frag) (mg : Str → Option Value) (base : Heap) (C : Addr) (x : Str) (k : Nat) (ps : List Str) (sp : Sp) where
  f : Addr
  fd : FuncData
  m : Meth K C x f
  b : Binds K fd ps []
  ok : FnOk P w K mg base (L2.CX P w) k f fd ps sp
/-- an operand, read -/
theorem opd_reads {K : PySem.W.Frag} {j : Nat} {σ : L2.St} {H : Hp} {ra U : Addr} {o : Opd} {fs : List Int} {n : Int} {Q : VK} (hj : σ[j]? = some (some (.ref ra))) (h2 : σ[2]? = some (some (.ref U))) (ho : OpdAt H ra o) (hU : H U = some (.lst (fs.map V.int)))
    (hv : oVal fs o = some n) (q : Q (.int n) H) :
    tIf (tTest (tOp (rIxT K) (tVar j) (tC (.int 0)))) (tOp (rIxT K) (tVar j) (tC (.int 1))) (tOp (rIxL K) (tVar 2) (tOp (rIxT K) (tVar j) (tC (.int 1)))) σ H Q := by
  cases o with
  | num z =>
    have hv : (if z.natAbs < 2 ^ BigZ then some z else none) = some n := hv
    by_cases hb : z.natAbs < 2 ^ BigZ
    · rw [if_pos hb] at hv
      cases hv
      refine ⟨_, hj, ra, _, 0, .bl true, rfl, rfl, SqT.of ho, rfl, true, rfl, ?_⟩
      refine iteT ?_
      exact ⟨_, hj, ra, _, 1, .int n, rfl, rfl, SqT.of ho, rfl, q⟩
    · rw [if_neg hb] at hv
      cases hv
  | plc k =>
    refine ⟨_, hj, ra, _, 0, .bl false, rfl, rfl, SqT.of ho, rfl, false, rfl, ?_⟩
    refine iteF ?_
    have hv : fs[k]? = some n := hv
    exact ⟨_, h2, _, hj, ra, _, 1, .int (k : Int), rfl, rfl, SqT.of ho, rfl, U, _, (k : Int), .int n, rfl, rfl, SqL.of hU, atI_nat (by rw [List.getElem?_map, hv]; rfl), q⟩
theorem cut_from {xs : List V} {k : Nat} (h : k ≤ xs.length) : cutV xs (some (k : Int)) none = xs.drop k := by
  unfold cutV
  rw [HT.sIx_nat, HT.sIx_none, Nat.min_eq_left h]
  exact List.take_of_length_le (by rw [List.length_drop]; omega)
def RaisesW (CW : Addr) (H : Hp) (E : XK) : Prop := ∀ H', Same H H' → E (.ref CW) none H'
def spAll (K : PySem.W.Frag) (CP CN CW : Addr) : Sp := fun vs H Q E => ∃ (x T S N : Addr) (v : V) (d : PyData) (t : List Nat) (tabs : List (List Int)) (steps : List Stp), vs = [.ref x, v] ∧ PrAt CP H x t tabs steps T S N ∧ steps.length ≤ LL ∧ Dt K H v d ∧
  (∀ z, d = .int z → 0 ≤ z → z.natAbs < 2 ^ BigZ ∧ ∃ r, runs tabs [z] steps = some r ∧ (match r with
    | none => RaisesW CW H E
    | some fs => ∀ (p : Addr) (H' : Hp), Same H H' → H' p = some (.tup ((fs.drop 1).map V.int)) → Q (.ref p) H')) ∧ (inputD d = false → RaisesN CN H (.str "x") v E)
theorem lit_ops : [("<<" : Str), ">>", "&", ""].map (fun s : Str => V.str s) = [[60, 60], [62, 62], [38], []].map fun w => V.str (Tx w) := by decide +kernel
section
variable {P : Program} {w : World} {K : PySem.W.Frag} {mg : Str → Option Value} {base : Heap} {CT CA CL CN NO CP CW : Addr}
abbrev sPAll : Stmt := inClass (topS 33) 2
theorem scPAll : FnScope ["self", "x", "found", "_", "sign", "operand", "other", "number"] ["self", "x"] (defScope sPAll) := ⟨rfl, rfl, rfl, by decide +kernel, rfl, by decide +kernel, by decide +kernel⟩
theorem ok_pall {f : Addr} {fd : FuncData} (F : Fun K "all_at" "Program.all_at" sPAll f fd) (T : Bk mg) (PR_ : PrC K mg CP) (W_ : Tw K mg CW) (G_need_input : Dx P w K mg base "need_input" 3 ["x"] (spNeedX K CN)) (G_shifted : Df P w K mg base "shifted" 1 ["sign", "number", "count"] spShf) (G_joined_numbers : Df P w K mg base "joined_numbers" 1 ["sign", "number", "other"] spJnd) : FnOk P w K mg base (L2.CX P w) 4 f fd ["self", "x"] (spAll K CP CN CW) := by
  refine F.okX scPAll (fun vs H Q E h => ?_) (fun cdv A outer s H vs Q E hr h => ?_)
  · obtain ⟨x, TT, S, N, v, d, t, tabs, steps, rfl, _⟩ := h
    rfl
  · obtain ⟨x, TT, S, N, v, d, t, tabs, steps, rfl, hp, hl, hd, h1, h2⟩ := h
    refine ⟨_, (pss_cons (ps_expr (pe_call G_need_input.ok (hr.mono (by decide)) rfl G_need_input.m G_need_input.kp G_need_input.b .nil (E := E) (L2.passes_call (L2.takes_of rfl rfl rfl rfl) (fun _ _ _ _ h => h)) (pa_cons (pv 1) pa_nil)))
  (pss_cons (ps_set (i := 2) scPAll.nd rfl (Or.inl rfl) (pe_lst (pa_cons (pv 1) pa_nil)))
  (pss_cons (ps_for (passes_of rfl) rfl (pi_seq (pe_fld (pv 0) rfl)) (pg_tup rfl (pgs_cons (pg_name (i := 3) scPAll.nd rfl (Or.inl rfl)) (pgs_cons (pg_name (i := 4) scPAll.nd rfl (Or.inl rfl)) (pgs_cons (pg_name (i := 5) scPAll.nd rfl (Or.inl rfl)) (pgs_cons (pg_name (i := 6) scPAll.nd rfl (Or.inl rfl)) pgs_nil)))))
    (pss_cons (ps_set (i := 7) scPAll.nd rfl (Or.inl rfl) (pe_ifExp (pt_val (pe_ix ix_tup (pv 5) pe_int (fun _ _ => rfl))) (pe_ix ix_tup (pv 5) pe_int (fun _ _ => rfl)) (pe_ix ix_list (pv 2) (pe_ix ix_tup (pv 5) pe_int (fun _ _ => rfl)) (fun _ _ => rfl))))
    (pss_one (ps_if (pt_cmpR op_eq (pv 4) pe_str (nomark _))
      (pss_cons (ps_if (pt_not (pt_chain op_le op_lt pe_int (pv 7) (pe_callB call_len_seq (by rfl) T.len (by decide +kernel) (pa_cons (pe_ix ix_tup (pe_fld (pv 0) rfl) (pv 6) (fun _ _ => rfl)) pa_nil))))
        (pss_one (ps_raise rfl (takes_of rfl rfl rfl rfl) (pmk_own0 PySem.F.excBase_ValueError W_.q W_.m W_.kC (raises_own W_.exC W_.tyC) (by rfl))))
        pss_nil)
      (pss_one (ps_expr (pe_bm PySem.F.plainAttrs_list PySem.F.slot_list_append PySem.F.type_list_append mt_append (pv 2) (pa_cons (pe_ix ix_tup (pe_ix ix_tup (pe_fld (pv 0) rfl) (pv 6) (fun _ _ => rfl)) (pv 7) (fun _ _ => rfl)) pa_nil)))))
      (pss_one (ps_if (pt_cmpR op_in_seq (pv 4) (pe_tup (pa_cons pe_str (pa_cons pe_str (pa_cons pe_str (pa_cons pe_str pa_nil))))) (by rfl))
        (pss_one (ps_expr (pe_bm PySem.F.plainAttrs_list PySem.F.slot_list_append PySem.F.type_list_append mt_append (pv 2) (pa_cons (pe_call G_shifted.ok (hr.mono (by decide)) rfl G_shifted.m G_shifted.kp G_shifted.b .nil pass0 (pa_cons (pv 4) (pa_cons (pv 7) (pa_cons (pv 6) pa_nil)))) pa_nil))))
        (pss_one (ps_expr (pe_bm PySem.F.plainAttrs_list PySem.F.slot_list_append PySem.F.type_list_append mt_append (pv 2) (pa_cons (pe_call G_joined_numbers.ok (hr.mono (by decide)) rfl G_joined_numbers.m G_joined_numbers.kp G_joined_numbers.b .nil pass0 (pa_cons (pv 4) (pa_cons (pv 7) (pa_cons (pe_ifExp (pt_val (pe_ix ix_tup (pv 6) pe_int (fun _ _ => rfl))) (pe_ix ix_tup (pv 6) pe_int (fun _ _ => rfl)) (pe_ix ix_list (pv 2) (pe_ix ix_tup (pv 6) pe_int (fun _ _ => rfl)) (fun _ _ => rfl))) pa_nil)))) pa_nil))))))))))
  (pss_one (ps_ret (pe_callTy call_tuple_of (by rfl) T.tuple (by decide +kernel) (pa_cons (pe_slice sl_list (pv 2) (po_some pe_int) po_none) pa_nil))))))), ?_⟩
    obtain ⟨dx, ex⟩ := hp.ins
    obtain ⟨trs, et1, et2⟩ := hp.tabs
    obtain ⟨srs, es1, es2⟩ := hp.steps
    refine ⟨_, rfl, v, d, rfl, hd, fun hi => ?_, h2⟩
    cases hd with
    | int z =>
      have z0 : 0 ≤ z := of_decide_eq_true hi
      obtain ⟨zb, r, er, q⟩ := h1 z rfl z0
      refine ⟨_, rfl, (by show 1 ≤ sizeLine; decide), fun U nU => ?_⟩
      have eU : upd H U (HO.lst [V.int z]) U = some (HO.lst [V.int z]) := upd_same
      have s1 : Same H (upd H U (HO.lst [V.int z])) := same_upd nU
      generalize upd H U (HO.lst [V.int z]) = H1 at eU s1 ⊢
      refine ⟨_, rfl, x, CP, dx, _, .ref S, rfl, s1 _ _ ex, PR_.cl, PR_.nS, (by kernel_rfl), S, rfl, .inr ⟨_, SqT.of (s1 _ _ es1), for_tup (xs := srs.map V.ref) (fun i σ H3 => ∃ (fs : List Int) (v3 v4 v5 v6 v7 : Option V), σ = [some (.ref x), some (.int z), some (.ref U), v3, v4, v5, v6, v7] ∧ Same H H3 ∧ H3 U = some (.lst (fs.map V.int)) ∧ runs tabs [z] steps = runs tabs fs (steps.drop i) ∧ fs.length = i + 1 ∧ ∀ m ∈ fs, m.natAbs < 2 ^ BigZ)
        ⟨[z], none, none, none, none, none, rfl, s1, eU, rfl, rfl, fun m hm => by rw [List.mem_singleton.mp hm]; exact zb⟩ (fun i σ H3 _ ⟨fs, v3, v4, v5, v6, v7, _, s3, _⟩ => SqT.of (s3 _ _ es1)) ?_ ?_⟩⟩
      · rintro i xv σ H3 hx ⟨fs, v3, v4, v5, v6, v7, rfl, s3, eU3, er3, fl, fb⟩
        obtain ⟨rr, hr1, rfl⟩ : ∃ rr, srs[i]? = some rr ∧ xv = V.ref rr := by
          rw [List.getElem?_map] at hx
          cases h : srs[i]? with
          | none => rw [h] at hx; cases hx
          | some rr => rw [h] at hx; exact ⟨rr, rfl, (Option.some.inj hx).symm⟩
        obtain ⟨sp, hs1, ra, vo, err, eo, eth⟩ := es2.at hr1
        have ilt := (List.getElem?_eq_some_iff.mp hs1).1
        have edr : steps.drop i = sp :: steps.drop (i + 1) := by rw [List.drop_eq_getElem_cons ilt, (List.getElem?_eq_some_iff.mp hs1).2]
        rw [edr, er] at er3
        have er3 : some r = (match stp tabs fs sp with
          | none => none
          | some none => some none
          | some (some z) => if z.natAbs < 2 ^ BigZ then runs tabs (fs ++ [z]) (steps.drop (i + 1)) else none) := er3
        have err3 := s3 _ _ err
        have eo3 : OpdAt H3 ra sp.one := eo.up (.of s3)
        have eth3 : OthAt H3 vo sp.oth := eth.up (.of s3)
        cases hv : oVal fs sp.one with
        | none => unfold stp at er3; rw [hv] at er3; cases er3
        | some n =>
          have nb : n.natAbs < 2 ^ BigZ := oVal_big fb hv
          -- what the step gives is put behind
          have put : ∀ (H4 : Hp) (_ : Same H H4) (y : Int), stp tabs fs sp = some (some y) → ∀ (v3 v4 v5 v6 v7 : Option V), ∃ (fs' : List Int) (w3 w4 w5 w6 w7 : Option V), [some (V.ref x), some (.int z), some (.ref U), v3, v4, v5, v6, v7] = [some (V.ref x), some (.int z), some (.ref U), w3, w4, w5, w6, w7] ∧ Same H (upd H4 U (.lst (fs.map V.int ++ [.int y]))) ∧ upd H4 U (.lst (fs.map V.int ++ [.int y])) U = some (.lst (fs'.map V.int)) ∧ runs tabs [z] steps = runs tabs fs' (steps.drop (i + 1)) ∧ fs'.length = i + 1 + 1 ∧ ∀ m ∈ fs', m.natAbs < 2 ^ BigZ := fun H4 s4 y hy v3 v4 v5 v6 v7 => by
            rw [hy] at er3
            have er3 : some r = (if y.natAbs < 2 ^ BigZ then runs tabs (fs ++ [y]) (steps.drop (i + 1)) else none) := er3
            by_cases hb : y.natAbs < 2 ^ BigZ
            · rw [if_pos hb] at er3
              refine ⟨fs ++ [y], v3, v4, v5, v6, v7, rfl, fun b o e => ?_, ?_, by rw [er]; exact er3, by rw [List.length_append, fl]; rfl, fun m hm => ?_⟩
              · rw [upd_ne (ne_of_none e nU)]
                exact s4 _ _ e
              · rw [upd_same, List.map_append]
                rfl
              · rcases List.mem_append.mp hm with hm | hm
                · exact fb m hm
                · rw [List.mem_singleton.mp hm]
                  exact hb
            · rw [if_neg hb] at er3
              cases er3
          refine ⟨rr, _, rfl, SqT.of err3, rfl, _, _, rfl, _, _, rfl, _, _, rfl, _, _, rfl, rfl, ?_⟩
          have sz : (fs.map V.int).length < sizeLine := by rw [List.length_map, fl, sizeLine_eq]; unfold LL at hl; omega
          refine opd_reads (j := 5) rfl rfl eo3 eU3 hv ?_
          refine ⟨_, rfl, rfl, _, rfl, ?_⟩
          rw [lit_open, tx_eq]
          by_cases h91 : sp.sign = [91]
          · rw [decide_eq_true h91]
            refine iteT ?_
            have ex3 := s3 _ _ ex
            have et3 := s3 _ _ et1
            have st1 : stp tabs fs sp = (match sp.oth with
              | .cnt i => (match tabs[i]? with
                | none => none
                | some ns => if 0 ≤ n ∧ n < ns.length then some ns[n.toNat]? else some none)
              | _ => none) := by
              unfold stp
              rw [hv]
              show (if sp.sign = [91] then _ else _) = _
              rw [if_pos h91]
              all_goals
                cases sp.oth with
                | cnt j => cases tabs[j]? <;> rfl
                | _ => rfl
            cases ho : sp.oth with
            | opd o => rw [ho] at st1; rw [st1] at er3; cases er3
            | non => rw [ho] at st1; rw [st1] at er3; cases er3
            | cnt j =>
              rw [ho] at st1 eth3
              have st1 : stp tabs fs sp = (match tabs[j]? with
                | none => none
                | some ns => if 0 ≤ n ∧ n < ns.length then some ns[n.toNat]? else some none) := st1
              have eth3 : vo = .int (j : Int) := eth3
              subst eth3
              cases htb : tabs[j]? with
              | none => rw [htb] at st1; rw [st1] at er3; cases er3
              | some ns =>
                rw [htb] at st1
                have st1 : stp tabs fs sp = if 0 ≤ n ∧ n < ns.length then some ns[n.toNat]? else some none := st1
                obtain ⟨tr, htr, etr⟩ := et2.get htb
                have etr3 : H3 tr = some (.tup (ns.map V.int)) := s3 _ _ etr
                have at1 : atI (trs.map V.ref) (j : Int) = some (.ref tr) := atI_nat (by rw [List.getElem?_map, htr]; rfl)
                have wide : ¬ (0 ≤ n ∧ n < ns.length) → E (.ref CW) none H3 := fun no => by
                  rw [if_neg no] at st1
                  rw [st1] at er3
                  cases er3
                  exact q H3 s3
                refine ⟨_, rfl, _, _, rfl, rfl, decide (0 ≤ n), rfl, ?_⟩
                by_cases n0 : 0 ≤ n
                · rw [decide_eq_true n0]
                  refine iteT ?_
                  refine ⟨_, rfl, x, CP, dx, _, .ref TT, rfl, ex3, PR_.cl, PR_.nT, (by kernel_rfl), _, rfl, TT, _, (j : Int), .ref tr, rfl, rfl, SqT.of et3, at1, tr, _, rfl, .inr (SqT.of etr3), _, _, rfl, rfl, _, rfl, ?_⟩
                  rw [List.length_map]
                  by_cases n1 : n < ns.length
                  · rw [decide_eq_true n1]
                    refine iteF ?_
                    have nt : n.toNat < ns.length := by omega
                    have hy : ns[n.toNat]? = some ns[n.toNat] := List.getElem?_eq_getElem nt
                    rw [if_pos ⟨n0, n1⟩, hy] at st1
                    have at2 : atI (ns.map V.int) n = some (.int ns[n.toNat]) := by
                      have := atI_nat (xs := ns.map V.int) (k := n.toNat) (v := .int ns[n.toNat]) (by rw [List.getElem?_map, hy]; rfl)
                      rw [Int.toNat_of_nonneg n0] at this
                      exact this
                    refine ⟨_, rfl, .inl ⟨rfl, _, SqL.of eU3⟩, _, rfl, x, CP, dx, _, .ref TT, rfl, ex3, PR_.cl, PR_.nT, (by kernel_rfl), _, rfl, TT, _, (j : Int), .ref tr, rfl, rfl, SqT.of et3, at1, _, rfl, tr, _, n, _, rfl, rfl, SqT.of etr3, at2, U, _, _, rfl, rfl, eU3, sz, ?_⟩
                    exact put H3 s3 _ st1 _ _ _ _ _
                  · rw [decide_eq_false n1]
                    refine iteT ?_
                    exact wide (fun z => n1 z.2)
                · rw [decide_eq_false n0]
                  refine iteF ?_
                  refine ⟨_, rfl, ?_⟩
                  refine iteT ?_
                  exact wide (fun z => n0 z.1)
          · rw [decide_eq_false h91]
            refine iteF ?_
            refine ⟨_, rfl, (by show 4 ≤ sizeLine; decide), fun PP nP => ?_⟩
            have eP : upd H3 PP (.tup [.str "<<", .str ">>", .str "&", .str ""]) PP = some (.tup [.str "<<", .str ">>", .str "&", .str ""]) := upd_same
            have s34 : Same H3 (upd H3 PP (.tup [.str "<<", .str ">>", .str "&", .str ""])) := same_upd nP
            generalize upd H3 PP (.tup [.str "<<", .str ">>", .str "&", .str ""]) = H4 at eP s34 ⊢
            have s4 := s3.trans s34
            have eU4 := s34 _ _ eU3
            refine ⟨PP, _, rfl, .inr (SqT.of eP), rfl, rfl, ?_⟩
            rw [show ([.str "<<", .str ">>", .str "&", .str ""] : List V) = [[60, 60], [62, 62], [38], []].map fun w => V.str (Tx w) from lit_ops]
            rw [inV_tx]
            have st2 : stp tabs fs sp = if sp.sign = [60, 60] ∨ sp.sign = [62, 62] ∨ sp.sign = [38] ∨ sp.sign = [] then (match sp.oth with
                | .cnt c => if c ≤ 60 then some (some (shf sp.sign n c)) else none
                | .non => if sp.sign = [] then some (some n) else none
                | _ => none)
              else (match sp.oth with
                | .opd o => (match oVal fs o with
                  | some m => some (some (jnd sp.sign n m))
                  | none => none)
                | _ => none) := by
              unfold stp
              rw [hv]
              show (if sp.sign = [91] then _ else _) = _
              rw [if_neg h91]
              all_goals
                by_cases hm : sp.sign = [60, 60] ∨ sp.sign = [62, 62] ∨ sp.sign = [38] ∨ sp.sign = []
                · rw [if_pos hm, if_pos hm]
                  cases sp.oth <;> rfl
                · rw [if_neg hm, if_neg hm]
                  cases sp.oth with
                  | opd o => cases oVal fs o <;> rfl
                  | _ => rfl
            have eth4 : OthAt H4 vo sp.oth := eth3.up (.of s34)
            by_cases hm : sp.sign = [60, 60] ∨ sp.sign = [62, 62] ∨ sp.sign = [38] ∨ sp.sign = []
            · rw [if_pos hm] at st2
              rw [decide_eq_true (by simpa using hm)]
              refine ⟨true, rfl, ?_⟩
              refine iteT ?_
              cases ho : sp.oth with
              | opd o => rw [ho] at st2; rw [st2] at er3; cases er3
              | non =>
                rw [ho] at st2 eth4
                have st2 : stp tabs fs sp = if sp.sign = [] then some (some n) else none := st2
                have eth4 : vo = .non := eth4
                subst eth4
                by_cases h0 : sp.sign = []
                · rw [if_pos h0] at st2
                  refine ⟨_, rfl, .inl ⟨rfl, _, SqL.of eU4⟩, _, rfl, _, rfl, _, rfl, sp.sign, n, .non, rfl, .inr ⟨h0, U, _, _, rfl, rfl, eU4, sz, ?_⟩⟩
                  exact put H4 s4 _ st2 _ _ _ _ _
                · rw [if_neg h0] at st2
                  rw [st2] at er3
                  cases er3
              | cnt c =>
                rw [ho] at st2 eth4
                have st2 : stp tabs fs sp = if c ≤ 60 then some (some (shf sp.sign n c)) else none := st2
                have eth4 : vo = .int (c : Int) := eth4
                subst eth4
                by_cases hc : c ≤ 60
                · rw [if_pos hc] at st2
                  refine ⟨_, rfl, .inl ⟨rfl, _, SqL.of eU4⟩, _, rfl, _, rfl, _, rfl, sp.sign, n, _, rfl, .inl ⟨c, rfl, hc, nb, U, _, _, rfl, rfl, eU4, sz, ?_⟩⟩
                  exact put H4 s4 _ st2 _ _ _ _ _
                · rw [if_neg hc] at st2
                  rw [st2] at er3
                  cases er3
            · rw [if_neg hm] at st2
              rw [decide_eq_false (by simpa using hm)]
              refine ⟨false, rfl, ?_⟩
              refine iteF ?_
              cases ho : sp.oth with
              | non => rw [ho] at st2; rw [st2] at er3; cases er3
              | cnt c => rw [ho] at st2; rw [st2] at er3; cases er3
              | opd o =>
                rw [ho] at st2 eth4
                have st2 : stp tabs fs sp = (match oVal fs o with
                  | some m => some (some (jnd sp.sign n m))
                  | none => none) := st2
                obtain ⟨rb, ev, eo4⟩ : ∃ r, vo = .ref r ∧ OpdAt H4 r o := eth4
                subst ev
                cases hv2 : oVal fs o with
                | none => rw [hv2] at st2; rw [st2] at er3; cases er3
                | some m =>
                  rw [hv2] at st2
                  have st2 : stp tabs fs sp = some (some (jnd sp.sign n m)) := st2
                  refine ⟨_, rfl, .inl ⟨rfl, _, SqL.of eU4⟩, _, rfl, _, rfl, ?_⟩
                  refine opd_reads (j := 6) rfl rfl eo4 eU4 hv2 ?_
                  refine ⟨sp.sign, n, m, rfl, nb, oVal_big fb hv2, U, _, _, rfl, rfl, eU4, sz, ?_⟩
                  exact put H4 s4 _ st2 _ _ _ _ _
      · rintro σ H3 ⟨fs, v3, v4, v5, v6, v7, rfl, s3, eU3, er3, fl, fb⟩
        rw [List.length_map, show srs.length = steps.length from es2.len, List.drop_length, er] at er3
        cases er3
        have q : ∀ (p : Addr) (H' : Hp), Same H H' → H' p = some (.tup ((fs.drop 1).map V.int)) → Q (.ref p) H' := q
        refine ⟨_, rfl, _, rfl, U, _, rfl, SqL.of eU3, fun D nD => ?_⟩
        refine ⟨D, _, rfl, .inl ⟨SqL.of upd_same, fun p np => ?_⟩⟩
        refine q p _ (fun b o e => ?_) ?_
        · rw [upd_ne (ne_of_none (same_upd nD _ _ (s3 _ _ e)) np)]
          exact same_upd nD _ _ (s3 _ _ e)
        · rw [upd_same, show (1 : Int) = ((1 : Nat) : Int) from rfl, cut_from (by rw [List.length_map, fl]; omega), List.map_drop]
    | _ => cases hi
def spPAt (K : PySem.W.Frag) (CP CN CW : Addr) : Sp := fun vs H Q E => ∃ (x T S N : Addr) (v : V) (d : PyData) (t : List Nat) (tabs : List (List Int)) (steps : List Stp), vs = [.ref x, v] ∧ PrAt CP H x t tabs steps T S N ∧ steps.length ≤ LL ∧ Dt K H v d ∧
  (∀ z, d = .int z → 0 ≤ z → z.natAbs < 2 ^ BigZ ∧ ∃ r, runs tabs [z] steps = some r ∧ (match r with
    | none => RaisesW CW H E
    | some fs => ∃ y, (fs.drop 1).getLast? = some y ∧ ∀ (H' : Hp), Same H H' → Q (.int y) H')) ∧ (inputD d = false → RaisesN CN H (.str "x") v E)
abbrev sPAt : Stmt := inClass (topS 33) 1
theorem scPAt : FnScope ["self", "x"] ["self", "x"] (defScope sPAt) := ⟨rfl, rfl, rfl, by decide +kernel, rfl, by decide +kernel, by decide +kernel⟩
theorem ok_pat {f : Addr} {fd : FuncData} (F : Fun K "at" "Program.at" sPAt f fd) (PR_ : PrC K mg CP) (M_all_at : Mr P w K mg base CP "all_at" 4 ["self", "x"] (spAll K CP CN CW)) : FnOk P w K mg base (L2.CX P w) 5 f fd ["self", "x"] (spPAt K CP CN CW) := by
  refine F.okX scPAt (fun vs H Q E h => ?_) (fun cdv A outer s H vs Q E hr h => ?_)
  · obtain ⟨x, TT, S, N, v, d, t, tabs, steps, rfl, _⟩ := h
    rfl
  · obtain ⟨x, TT, S, N, v, d, t, tabs, steps, rfl, hp, hl, hd, h1, h2⟩ := h
    refine ⟨_, (pss_one (ps_ret (pe_ix ix_tup (pe_meth (pv 0) PR_.cl M_all_at.m M_all_at.ok (hr.mono (by decide)) M_all_at.b .nil (E := E) (L2.passes_call (L2.takes_of rfl rfl rfl rfl) (fun _ _ _ _ h => h)) (pa_cons (pv 1) pa_nil)) (pe_un un_neg pe_int) (fun _ _ => rfl)))), ?_⟩
    obtain ⟨dx, ex⟩ := hp.ins
    refine ⟨_, rfl, x, dx, _, rfl, ex, (by kernel_rfl), _, rfl, x, TT, S, N, v, d, t, tabs, steps, rfl, hp, hl, hd, fun z hz z0 => ?_, h2⟩
    obtain ⟨zb, r, er, q⟩ := h1 z hz z0
    refine ⟨zb, r, er, ?_⟩
    cases r with
    | none => exact q
    | some fs =>
      obtain ⟨y, hy, q⟩ := q
      intro p H1 s1 e1
      have ne : ((fs.drop 1).map V.int) ≠ [] := fun z => by
        rw [List.map_eq_nil_iff.mp z] at hy
        cases hy
      refine ⟨_, rfl, p, _, -1, .int y, rfl, rfl, SqT.of e1, (by rw [atI_last ne, List.getLast?_map, hy]; rfl), ?_⟩
      exact q H1 s1
end

end Vf

set_option maxRecDepth 100000
set_option maxHeartbeats 8000000
namespace Vf
open PySem PySem.Spec PyProof.Rows L2
/-! ### what is printed is read -/
inductive LOp where
  | nm (n : List Nat)
  | nu (z : Int)
def intT (z : Int) : List Nat := if z < 0 then 45 :: digs z.natAbs else digs z.natAbs
def shO : LOp → List Nat
  | .nm n => n
  | .nu z => intT z
structure Nm (n : List Nat) : Prop where
  first : ∃ c, n[0]? = some c ∧ isL c = true
  all : ∀ c ∈ n, isN c = true
  len : n.length ≤ 8
def noDg (r : List Nat) : Prop := ∀ c, r[0]? = some c → isD c = false
def noN (r : List Nat) : Prop := ∀ c, r[0]? = some c → isN c = false
theorem noN.d {r : List Nat} (h : noN r) : noDg r := fun c hc => by
  have := h c hc
  unfold isN at this
  cases e : isD c with
  | false => rfl
  | true => rw [e] at this; simp at this
theorem read_digs {t : List Nat} {a n most : Nat} {r : List Nat} (h : t.drop a = digs n ++ r) (hn : (digs n).length ≤ most) (hr : noDg r) : pDigits t a most = .ok (n, a + (digs n).length) := by
  have h1 := digs_ge n
  have at_ : ∀ i, i < (digs n).length → dgA t (a + i) = true := fun i hi => by
    have e := drop_at h i hi
    have hg : (digs n)[i]? = some (digs n)[i] := List.getElem?_eq_getElem hi
    rw [hg] at e
    rw [dgA_of e]
    exact digs_d n _ (List.getElem_mem ..)
  have end_ : dgA t (a + (digs n).length) = false := by
    have e := drop_hd (drop_app h)
    unfold dgA
    rw [e]
    cases hc : r[0]? with
    | none => rfl
    | some c => exact hr c hc
  have dn : digN t a most = (digs n).length := by
    unfold digN
    have e0 := drop_at h 0 (by omega)
    rw [Nat.add_zero] at e0
    by_cases n0 : n = 0
    · subst n0
      rw [digs_zero] at e0 ⊢
      rw [if_pos (show t[a]? = some 48 from e0)]
      rfl
    · rw [if_neg (by rw [e0]; exact digs_head n0), runD_of _ at_, runD_no end_]
      omega
  have d0 := at_ 0 (by omega)
  rw [Nat.add_zero] at d0
  unfold pDigits
  rw [if_pos d0, dn, if_neg (by rw [end_]; decide)]
  have sg : seg t a (digs n).length = digs n := by
    unfold seg
    rw [h, List.take_left']
    rfl
  rw [sg, digs_val]
theorem read_num {t : List Nat} {a : Nat} {z : Int} {r : List Nat} (h : t.drop a = intT z ++ r) (hz : z.natAbs < 10 ^ 30) (hr : noDg r) : pNumber t a = .ok (z, a + (intT z).length) := by
  unfold intT at h ⊢
  unfold pNumber
  by_cases hn : z < 0
  · rw [if_pos hn] at h ⊢
    obtain ⟨e1, e2⟩ := drop_cons h
    rw [if_pos e1, read_digs e2 (digs_len (by decide) hz) hr]
    show Except.ok (-((z.natAbs : Nat) : Int), _) = _
    rw [show -((z.natAbs : Nat) : Int) = z by omega, List.length_cons]
    congr 2
    omega
  · rw [if_neg hn] at h ⊢
    obtain ⟨c, e1, e2⟩ := dig_first h
    rw [if_neg (by rw [e1]; intro y; cases y; revert e2; decide), read_digs h (digs_len (by decide) hz) hr]
    show Except.ok (((z.natAbs : Nat) : Int), _) = _
    rw [show ((z.natAbs : Nat) : Int) = z by omega]
theorem runN_of : ∀ {n r : List Nat}, (∀ c ∈ n, isN c = true) → noN r → runN (n ++ r) = n.length
  | [], r, _, hr => by
    cases r with
    | nil => rfl
    | cons c r =>
      show (if isN c = true then runN r + 1 else 0) = 0
      rw [if_neg (by rw [hr c rfl]; decide)]
  | c :: n, r, h, hr => by
    show (if isN c = true then runN (n ++ r) + 1 else 0) = _
    rw [if_pos (h c List.mem_cons_self), runN_of (fun c hc => h c (List.mem_cons_of_mem _ hc)) hr]
    rfl
theorem read_name {t : List Nat} {a : Nat} {n r : List Nat} {br : List (List Nat)} (h : t.drop a = n ++ r) (hn : Nm n) (hr : noN r) (hb : n ∉ br) : pName t a br = .ok (n, a + n.length) := by
  obtain ⟨c, hc, hl⟩ := hn.first
  have pos : 0 < n.length := (List.getElem?_eq_some_iff.mp hc).1
  have e := drop_at h 0 pos
  rw [Nat.add_zero, hc] at e
  have re : rEnd t a = a + n.length := by
    unfold rEnd
    rw [h, runN_of hn.all hr]
  have ct : cutT t a (a + n.length) = n := by
    unfold cutT
    rw [h, Nat.add_sub_cancel_left, List.take_left']
    rfl
  unfold pName
  rw [e]
  show (if isL c = true then _ else _) = _
  rw [if_pos hl, re, ct, if_neg (by have := hn.len; omega), if_neg hb]
theorem Nm.la {t : List Nat} {a : Nat} {n r : List Nat} (hn : Nm n) (h : t.drop a = n ++ r) : lA t a = true := by
  obtain ⟨c, hc, hl⟩ := hn.first
  have pos : 0 < n.length := (List.getElem?_eq_some_iff.mp hc).1
  have e := drop_at h 0 pos
  rw [Nat.add_zero, hc] at e
  unfold lA pOperand.dgL
  rw [e]
  exact hl
theorem digit_la {t : List Nat} {a : Nat} {z : Int} {r : List Nat} (h : t.drop a = intT z ++ r) : lA t a = false := by
  unfold lA pOperand.dgL
  unfold intT at h
  by_cases hn : z < 0
  · rw [if_pos hn] at h
    obtain ⟨e1, e2⟩ := drop_cons h
    rw [e1]
    rfl
  · rw [if_neg hn] at h
    obtain ⟨c, e1, e2⟩ := dig_first h
    rw [e1]
    show isL c = false
    unfold isD at e2
    unfold isL
    have := of_decide_eq_true e2
    exact decide_eq_false (by omega)
theorem intT_ne32 (z : Int) (r : List Nat) : (intT z ++ r)[0]? ≠ some 32 := by
  have h : (intT z ++ r).drop 0 = intT z ++ r := rfl
  unfold intT at h ⊢
  by_cases hn : z < 0
  · rw [if_pos hn]
    intro y
    cases y
  · rw [if_neg hn] at h ⊢
    obtain ⟨c, e1, e2⟩ := dig_first h
    rw [e1]
    intro y
    cases y
    revert e2
    decide
theorem Nm.ne32 {n : List Nat} (h : Nm n) (r : List Nat) : (n ++ r)[0]? ≠ some 32 := by
  obtain ⟨c, hc, hl⟩ := h.first
  have pos : 0 < n.length := (List.getElem?_eq_some_iff.mp hc).1
  rw [List.getElem?_append_left pos, hc]
  intro y
  cases y
  revert hl
  decide
/-- an operand as it is known: a place that is told before, or a number -/
def Kn (env : Env') : LOp → Opd → Prop
  | .nm n, o => Nm n ∧ ∃ i, envGet env n = some (false, i) ∧ o = .plc i
  | .nu z, o => z.natAbs < 10 ^ 30 ∧ o = .num z
theorem Kn.ne32 {env : Env'} {o : LOp} {d : Opd} (h : Kn env o d) (r : List Nat) : (shO o ++ r)[0]? ≠ some 32 := by
  cases o with
  | nm n => exact h.1.ne32 r
  | nu z => exact intT_ne32 z r
theorem read_opd {t : List Nat} {a g : Nat} {env : Env'} {o : LOp} {d : Opd} {r : List Nat} (h : t.drop a = sp g ++ (shO o ++ r)) (k : Kn env o d) (hr : noN r) : pOperand env t a = .ok (d, a + g + (shO o).length) := by
  have b := beh_of h (k.ne32 r)
  have h2 : t.drop (a + g) = shO o ++ r := by
    have := drop_app h
    rw [show (sp g).length = g from List.length_replicate ..] at this
    exact this
  unfold pOperand
  rw [b]
  cases o with
  | nm n =>
    obtain ⟨hn, i, he, rfl⟩ := k
    rw [if_pos (hn.la h2), read_name h2 hn hr (by intro z; cases z)]
    show (match envGet env n with
      | some (false, i) => Except.ok (Opd.plc i, a + g + n.length)
      | _ => .error (a + g + 1)) = _
    rw [he]
    rfl
  | nu z =>
    obtain ⟨hz, rfl⟩ := k
    rw [if_neg (by rw [show pOperand.dgL t (a + g) = false from digit_la h2]; decide), read_num h2 hz hr.d]
    rfl
/-- the sign of a step as it is written -/
def opX (sg : List Nat) : List Nat := if sg = [62] then [62, 62] else if sg = [60] then [60, 60] else sg
theorem drop_sp {t : List Nat} {a g : Nat} {r : List Nat} (h : t.drop a = sp g ++ r) : t.drop (a + g) = r := by
  have := drop_app h
  rw [show (sp g).length = g from List.length_replicate ..] at this
  exact this
theorem read_sign {t : List Nat} {a g c : Nat} {r : List Nat} (h : t.drop a = sp g ++ (c :: r)) (hc : c ≠ 32) : pSign t a c = .ok (a + g + 1) := by
  have b := beh_of h (by intro z; exact hc (Option.some.inj z))
  unfold pSign
  rw [b, if_pos (drop_cons (drop_sp h)).1]
theorem read_cnt {t : List Nat} {a n : Nat} {r : List Nat} (h : t.drop a = digs n ++ r) (hn : n ≤ 60) (hr : noDg r) : pCount t a = .ok (n, a + (digs n).length) := by
  have hl : (digs n).length ≤ 2 := digs_len (by decide) (by omega)
  unfold pCount
  rw [if_neg, read_digs h hl hr]
  rintro ⟨h1, h2, h3, h4⟩
  by_cases h10 : n < 10
  · rw [digs_lt h10] at h
    have e := drop_hd (drop_app h)
    obtain ⟨c, e1, e2⟩ := dgA_some h3
    have e : t[a + 1]? = r[0]? := e
    rw [e1] at e
    rw [hr c e.symm] at e2
    cases e2
  · have l2 : (digs n).length = 2 := by
      refine Nat.le_antisymm hl (Nat.lt_of_not_le fun l1 => ?_)
      have g1 := digs_ge n
      match e : digs n, l1, g1 with
      | [c], _, _ =>
        have v := digs_val n
        have dd := digs_d n c (by rw [e]; exact List.mem_cons_self)
        rw [e] at v
        have v : c - 48 = n := by
          rw [← v]
          show c - 48 = 0 * 10 + (c - 48)
          omega
        unfold isD at dd
        have := of_decide_eq_true dd
        omega
    have sg : seg t a 2 = digs n := by
      unfold seg
      rw [h, ← l2, List.take_left']
      rfl
    rw [sg, digs_val] at h4
    omega
inductive ValB (env : Env') : List Nat → List Nat × Opd × Oth → Prop
  | plain {o : LOp} {d : Opd} : Kn env o d → ValB env (shO o) ([], d, .non)
  | ari {o p : LOp} {d e : Opd} {c gp : Nat} : Kn env o d → Kn env p e → c = 43 ∨ c = 45 ∨ c = 42 → ValB env (shO o ++ (sp gp ++ (c :: (sp gp ++ shO p)))) ([c], d, .opd e)
  | shift {o : LOp} {d : Opd} {c gp n : Nat} : Kn env o d → c = 60 ∨ c = 62 → n ≤ 60 → ValB env (shO o ++ (sp gp ++ (c :: c :: (sp gp ++ digs n)))) ([c, c], d, .cnt n)
  | rest {o : LOp} {d : Opd} {gp n : Nat} : Kn env o d → n ≤ 60 → ValB env (shO o ++ (sp gp ++ (38 :: (sp gp ++ digs n)))) ([38], d, .cnt n)
  | cell {tn : List Nat} {i : Nat} {o : LOp} {d : Opd} : Nm tn → envGet env tn = some (true, i) → Kn env o d → ValB env (tn ++ (91 :: (shO o ++ [93]))) ([91], d, .cnt i)
theorem noN_cons {c : Nat} {r : List Nat} (h : isN c = false) : noN (c :: r) := fun x hx => by cases hx; exact h
theorem noN_sp {g : Nat} {r : List Nat} (h : noN r) : noN (sp g ++ r) := by
  cases g with
  | zero => exact h
  | succ g => exact noN_cons (by decide)
theorem noN_nil : noN [] := fun _ z => nomatch z
theorem noN_end (g : Nat) : noN (sp g) := by
  have := noN_sp (g := g) noN_nil
  rw [List.append_nil] at this
  exact this
/-- an operand, then what is behind it -/
theorem plain_of {t : List Nat} {a g : Nat} {env : Env'} {o : LOp} {d : Opd} {r : List Nat} (h : t.drop a = sp g ++ (shO o ++ r)) (k : Kn env o d) (hr : noN r) : pValue env t a = pRest env t d (a + g + (shO o).length) := by
  have b := beh_of h (k.ne32 r)
  have h2 := drop_sp h
  have pp : pPlain env t (a + g) = pRest env t d (a + g + (shO o).length) := by
    have e := read_opd (g := 0) (a := a + g) (show t.drop (a + g) = sp 0 ++ (shO o ++ r) from h2) k hr
    unfold pPlain
    rw [e]
    rfl
  unfold pValue
  rw [b]
  cases o with
  | nm n =>
    obtain ⟨hn, i, he, rfl⟩ := k
    rw [if_pos (hn.la h2), read_name h2 hn hr (by intro z; cases z)]
    show (match envGet env n with
      | some (true, i) => pCell env t (a + g + n.length) i
      | _ => pPlain env t (a + g)) = _
    rw [he]
    exact pp
  | nu z =>
    rw [if_neg (by rw [digit_la h2]; decide)]
    exact pp
theorem drop_two {t x y r : List Nat} {a : Nat} (h : t.drop a = x ++ (y ++ r)) : t.drop (a + (x ++ y).length) = r := by
  rw [← List.append_assoc] at h
  exact drop_app h
theorem read_val {t : List Nat} {a g k : Nat} {env : Env'} {v : List Nat} {x : List Nat × Opd × Oth} (h : t.drop a = sp g ++ (v ++ sp k)) (hv : ValB env v x) : pValue env t a = .ok (x, a + g + v.length) := by
  cases hv with
  | @plain o d kn =>
    rw [plain_of h kn (noN_end k)]
    have h3 := drop_app (drop_sp h)
    have b := beh_of (e := a + g + (shO o).length) (g := k) (r := []) (by rw [h3, List.append_nil]) (by intro z; cases z)
    have e0 : t[a + g + (shO o).length + k]? = none := by
      have := drop_sp (r := []) (g := k) (by rw [h3, List.append_nil])
      have := drop_hd this
      exact this
    unfold pRest
    rw [b, e0]
  | @ari o p d e c gp kn kp hc =>
    rw [List.append_assoc, List.append_assoc, List.cons_append, List.append_assoc] at h
    have nc : isN c = false := by rcases hc with rfl | rfl | rfl <;> decide
    have c32 : c ≠ 32 := by rcases hc with rfl | rfl | rfl <;> decide
    rw [plain_of h kn (noN_sp (noN_cons nc))]
    have h3 := drop_app (drop_sp h)
    have b := beh_of h3 (by intro z; exact c32 (Option.some.inj z))
    obtain ⟨e1, e2⟩ := drop_cons (drop_sp h3)
    unfold pRest
    rw [b, e1]
    show (if c = 43 ∨ c = 45 ∨ c = 42 then _ else _) = _
    rw [if_pos hc, read_opd e2 kp (noN_end k)]
    show Except.ok (([c], d, Oth.opd e), _) = _
    congr 2
    simp only [List.length_append, List.length_cons, show ∀ g, (sp g).length = g from fun g => List.length_replicate ..]
    omega
  | @shift o d c gp n kn hc hn =>
    rw [List.append_assoc, List.append_assoc, List.cons_append, List.cons_append, List.append_assoc] at h
    have nc : isN c = false := by rcases hc with rfl | rfl <;> decide
    have c32 : c ≠ 32 := by rcases hc with rfl | rfl <;> decide
    have cp : ¬ (c = 43 ∨ c = 45 ∨ c = 42) := by rcases hc with rfl | rfl <;> decide
    rw [plain_of h kn (noN_sp (noN_cons nc))]
    have h3 := drop_app (drop_sp h)
    have b := beh_of h3 (by intro z; exact c32 (Option.some.inj z))
    obtain ⟨e1, e2⟩ := drop_cons (drop_sp h3)
    obtain ⟨e3, e4⟩ := drop_cons e2
    unfold pRest
    rw [b, e1]
    show (if c = 43 ∨ c = 45 ∨ c = 42 then _ else if c = 60 ∨ c = 62 then _ else _) = _
    rw [if_neg cp, if_pos hc, if_pos e3]
    unfold pCnt
    have b2 := beh_of e4 (by
      obtain ⟨z, y1, y2⟩ := dig_first (drop_sp e4)
      have := drop_hd (drop_sp e4)
      rw [y1] at this
      rw [← this]
      intro w
      cases w
      revert y2
      decide)
    rw [show a + g + (shO o).length + gp + [c, c].length = a + g + (shO o).length + gp + 1 + 1 from rfl, b2, read_cnt (drop_sp e4) hn (noN_end k).d]
    show Except.ok (([c, c], d, Oth.cnt n), _) = _
    congr 2
    simp only [List.length_append, List.length_cons, show ∀ g, (sp g).length = g from fun g => List.length_replicate ..]
    omega
  | @rest o d gp n kn hn =>
    rw [List.append_assoc, List.append_assoc, List.cons_append, List.append_assoc] at h
    rw [plain_of h kn (noN_sp (noN_cons (by decide)))]
    have h3 := drop_app (drop_sp h)
    have b := beh_of h3 (by intro z; cases z)
    obtain ⟨e1, e2⟩ := drop_cons (drop_sp h3)
    unfold pRest
    rw [b, e1]
    show pCnt t (a + g + (shO o).length + gp) [38] d = _
    unfold pCnt
    have b2 := beh_of e2 (by
      obtain ⟨z, y1, y2⟩ := dig_first (drop_sp e2)
      have := drop_hd (drop_sp e2)
      rw [y1] at this
      rw [← this]
      intro w
      cases w
      revert y2
      decide)
    rw [show a + g + (shO o).length + gp + [38].length = a + g + (shO o).length + gp + 1 from rfl, b2, read_cnt (drop_sp e2) hn (noN_end k).d]
    show Except.ok (([38], d, Oth.cnt n), _) = _
    congr 2
    simp only [List.length_append, List.length_cons, show ∀ g, (sp g).length = g from fun g => List.length_replicate ..]
    omega
  | @cell tn i o d hn he kn =>
    rw [List.append_assoc, List.cons_append, List.append_assoc] at h
    have b := beh_of h (hn.ne32 _)
    have h2 := drop_sp h
    unfold pValue
    rw [b, if_pos (hn.la h2), read_name h2 hn (noN_cons (by decide)) (by intro z; cases z)]
    show (match envGet env tn with
      | some (true, i) => pCell env t (a + g + tn.length) i
      | _ => pPlain env t (a + g)) = _
    rw [he]
    show pCell env t (a + g + tn.length) i = _
    have h3 := drop_app h2
    have e1 := read_sign (g := 0) (a := a + g + tn.length) h3 (by decide)
    have e2 := (drop_cons h3).2
    have e3 := read_opd (g := 0) (a := a + g + tn.length + 0 + 1) e2 kn (noN_cons (by decide))
    have e4 := drop_app e2
    have e5 := read_sign (g := 0) (a := a + g + tn.length + 0 + 1 + 0 + (shO o).length) e4 (by decide)
    unfold pCell
    rw [e1]
    show (match pOperand env t (a + g + tn.length + 0 + 1) with | .error c => Except.error c | .ok r => _) = _
    rw [e3]
    show (match pSign t (a + g + tn.length + 0 + 1 + 0 + (shO o).length) 93 with | .error c => Except.error c | .ok e3 => _) = _
    rw [e5]
    show Except.ok (([91], d, Oth.cnt i), _) = _
    congr 2
    simp only [List.length_append, List.length_cons, List.length_nil]
    omega

end Vf

set_option maxRecDepth 100000
set_option maxHeartbeats 8000000
namespace Vf
open PySem PySem.Spec PyProof.Rows L2
/-! ### lines as they are printed are read -/
theorem sp_len (g : Nat) : (sp g).length = g := List.length_replicate ..
theorem spc_all : ∀ g, spc (sp g) = g
  | 0 => rfl
  | g + 1 => by
    show (if (32 : Nat) = 32 then spc (sp g) + 1 else 0) = g + 1
    rw [if_pos rfl, spc_all g]
theorem read_blank (st : Pst) (g : Nat) : pLine st (sp g) = .ok st := by
  unfold pLine
  rw [if_pos]
  show 0 + spc ((sp g).drop 0) = (sp g).length
  rw [List.drop_zero, spc_all, sp_len, Nat.zero_add]
def NewN (env : Env') (n : List Nat) : Prop := Nm n ∧ n ≠ [120] ∧ n ≠ tableW ∧ envGet env n = none
theorem read_new {t : List Nat} {a : Nat} {n r : List Nat} {env : Env'} (h : t.drop a = n ++ r) (hn : NewN env n) (hr : noN r) : pNew env t a = .ok (n, a + n.length) := by
  obtain ⟨h1, h2, h3, h4⟩ := hn
  unfold pNew
  rw [read_name h h1 hr (by simp [h2, h3])]
  show (if (envGet env n).isSome then Except.error (a + 1) else .ok (n, a + n.length)) = _
  rw [h4]
  rfl
def stepT (g0 g : Nat) (n v : List Nat) (k : Nat) : List Nat := sp g0 ++ (n ++ (sp g ++ (61 :: (sp g ++ (v ++ sp k)))))
theorem ValB.ne32 {env : Env'} {v : List Nat} {x : List Nat × Opd × Oth} (h : ValB env v x) (r : List Nat) : (v ++ r)[0]? ≠ some 32 := by
  cases h with
  | plain k => exact k.ne32 r
  | ari k _ _ => rw [List.append_assoc]; exact k.ne32 _
  | shift k _ _ => rw [List.append_assoc]; exact k.ne32 _
  | rest k _ => rw [List.append_assoc]; exact k.ne32 _
  | cell h _ _ => rw [List.append_assoc]; exact h.ne32 _
theorem read_step {st : Pst} {g0 g k : Nat} {n v : List Nat} {x : List Nat × Opd × Oth} (hn : NewN st.env n) (hv : ValB st.env v x) :
    pLine st (stepT g0 g n v k) = .ok { tabs := st.tabs, steps := st.steps ++ [⟨n, x.1, x.2.1, x.2.2⟩], env := st.env ++ [(n, false, st.steps.length + 1)] } := by
  have h0 : (stepT g0 g n v k).drop 0 = sp g0 ++ (n ++ (sp g ++ (61 :: (sp g ++ (v ++ sp k))))) := rfl
  have ht : (stepT g0 g n v k).length = g0 + (n.length + (g + (g + (v.length + k) + 1))) := by
    unfold stepT
    simp only [List.length_append, List.length_cons, sp_len]
  generalize stepT g0 g n v k = t at h0 ht
  have b := beh_of h0 (hn.1.ne32 _)
  have h1 := drop_sp h0
  obtain ⟨c, hc, _⟩ := hn.1.first
  have pos : 0 < n.length := (List.getElem?_eq_some_iff.mp hc).1
  have nr : noN (sp g ++ (61 :: (sp g ++ (v ++ sp k)))) := noN_sp (noN_cons (by decide))
  have ct : cutT t (0 + g0) (rEnd t (0 + g0)) = n := by
    unfold rEnd cutT
    rw [h1, runN_of hn.1.all nr, Nat.add_sub_cancel_left, List.take_left']
    rfl
  unfold pLine
  rw [b, if_neg (by omega), if_neg (fun z => hn.2.2.1 (by rw [← ct]; exact z.2))]
  have h2 := drop_app h1
  have e1 := read_sign h2 (by decide)
  have h3 := (drop_cons (drop_sp h2)).2
  have e2 := read_val h3 hv
  have h4 := drop_app (drop_sp h3)
  unfold pStep
  rw [read_new h1 hn nr]
  show (match pSign t (0 + g0 + n.length) 61 with | .error c => Except.error c | .ok b => _) = _
  rw [e1]
  show (match pValue st.env t (0 + g0 + n.length + g + 1) with | .error c => Except.error c | .ok v => _) = _
  rw [e2]
  have b2 := beh_of (e := 0 + g0 + n.length + g + 1 + g + v.length) (g := k) (r := []) (by rw [h4, List.append_nil]) (by intro z; cases z)
  show (if beh t (0 + g0 + n.length + g + 1 + g + v.length) < t.length then _ else _) = _
  rw [if_neg (by rw [b2]; omega)]
def numsT : List Int → List Nat
  | [] => []
  | z :: zs => 32 :: (intT z ++ numsT zs)
def tableT (n : List Nat) (zs : List Int) : List Nat := tableW ++ (32 :: (n ++ numsT zs))
theorem noN_nums (zs : List Int) : noN (numsT zs) := by
  cases zs with
  | nil => exact noN_nil
  | cons z zs => exact noN_cons (by decide)
theorem read_nums {t : List Nat} : ∀ {zs : List Int} {f e : Nat} {ns : List Int}, t.drop e = numsT zs → e ≤ t.length → (∀ z ∈ zs, z.natAbs < 10 ^ 30) → zs.length < f → (ns ≠ [] ∨ zs ≠ []) → pNums t f e ns = .ok (ns ++ zs)
  | [], f + 1, e, ns, h, hl, _, _, hne => by
    have b := beh_of (e := e) (g := 0) (r := []) (by rw [h]; rfl) (by intro z; cases z)
    have el : t.length ≤ e := by
      have := congrArg List.length h
      rw [List.length_drop] at this
      have : (numsT []).length = 0 := rfl
      omega
    show (if ns = [] ∨ beh t e < t.length then _ else _) = _
    rw [if_neg (by
      rintro (z | z)
      · exact hne.elim (fun y => y z) (fun y => y rfl)
      · omega), List.append_nil]
  | z :: zs, f + 1, e, ns, h, hl, hz, hf, _ => by
    have h : t.drop e = 32 :: (intT z ++ numsT zs) := h
    obtain ⟨e1, e2⟩ := drop_cons h
    have b := beh_of (e := e) (g := 1) (r := intT z ++ numsT zs) h (intT_ne32 z _)
    have h3 := drop_app e2
    have len : 1 ≤ (intT z).length := by
      unfold intT
      have := digs_ge z.natAbs
      split
      · rw [List.length_cons]; omega
      · exact this
    have le : e + 1 + (intT z).length ≤ t.length := drop_le e2 (by intro y; rw [y] at len; simp at len)
    have lt : beh t e < t.length := by omega
    show (if ns = [] ∨ beh t e < t.length then _ else _) = _
    rw [if_pos (.inr lt)]
    have s1 : pSpace t e = .ok (e + 1) := by
      unfold pSpace
      rw [if_pos e1, b]
    rw [s1]
    show (match pNumber t (e + 1) with | .error c => Except.error c | .ok r => pNums t f r.2 (ns ++ [r.1])) = _
    rw [read_num e2 (hz z List.mem_cons_self) (noN_nums zs).d]
    show pNums t f (e + 1 + (intT z).length) (ns ++ [z]) = _
    rw [read_nums h3 le (fun y hy => hz y (List.mem_cons_of_mem _ hy)) (by rw [List.length_cons] at hf; omega) (.inl (by simp)), List.append_assoc]
    rfl
theorem nums_len : ∀ zs : List Int, zs.length ≤ (numsT zs).length
  | [] => Nat.le_refl _
  | z :: zs => by
    have := nums_len zs
    show zs.length + 1 ≤ (intT z ++ numsT zs).length + 1
    rw [List.length_append]
    omega
theorem read_table {st : Pst} {n : List Nat} {zs : List Int} (hn : NewN st.env n) (h0 : st.steps = []) (hz : ∀ z ∈ zs, z.natAbs < 10 ^ 30) (hne : zs ≠ []) :
    pLine st (tableT n zs) = .ok { tabs := st.tabs ++ [zs], steps := st.steps, env := st.env ++ [(n, true, st.tabs.length)] } := by
  have d0 : (tableT n zs).drop 0 = tableW ++ (32 :: (n ++ numsT zs)) := rfl
  have tl : (tableT n zs).length = 5 + (n.length + (numsT zs).length + 1) := by
    unfold tableT
    simp only [List.length_append, List.length_cons]
    rfl
  generalize tableT n zs = t at d0 tl
  have b := beh_of (t := t) (e := 0) (g := 0) (r := tableW ++ (32 :: (n ++ numsT zs))) d0 (by intro z; cases z)
  have nr : noN (32 :: (n ++ numsT zs)) := noN_cons (by decide)
  have ct : cutT t (0 + 0) (rEnd t (0 + 0)) = tableW := by
    unfold rEnd cutT
    rw [show (0 + 0 : Nat) = 0 from rfl, d0, runN_of (by decide) nr, Nat.zero_add, Nat.sub_zero, List.take_left']
    rfl
  unfold pLine
  rw [b, if_neg (by omega), if_pos ⟨h0, ct⟩]
  have h1 : t.drop 5 = 32 :: (n ++ numsT zs) := drop_app (a := 0) d0
  obtain ⟨e1, e2⟩ := drop_cons h1
  have b1 := beh_of (e := 5) (g := 1) (r := n ++ numsT zs) h1 (hn.1.ne32 _)
  have s1 : pSpace t (0 + 0 + 5) = .ok 6 := by
    unfold pSpace
    rw [show (0 + 0 + 5 : Nat) = 5 from rfl, if_pos e1, b1]
  have h3 := drop_app e2
  have nl := nums_len zs
  unfold pTable
  rw [s1]
  show (match pNew st.env t 6 with | .error c => Except.error c | .ok r => _) = _
  rw [read_new (a := 6) e2 hn (noN_nums zs)]
  show (match pNums t (t.length + 2) (6 + n.length) [] with | .error c => Except.error c | .ok ns => _) = _
  rw [read_nums h3 (by omega) hz (by omega) (.inr hne)]
  rfl
/-! ### a text and its lines -/
def joinN : List (List Nat) → List Nat
  | [] => []
  | l :: ls => l ++ (10 :: joinN ls)
theorem spn_line : ∀ {l r acc : List Nat}, 10 ∉ l → spn acc (l ++ (10 :: r)) = (acc ++ l) :: spn [] r
  | [], r, acc, _ => by
    show (if (10 : Nat) = 10 then acc :: spn [] r else _) = _
    rw [if_pos rfl, List.append_nil]
  | c :: l, r, acc, h => by
    show (if c = 10 then acc :: spn [] (l ++ (10 :: r)) else spn (acc ++ [c]) (l ++ (10 :: r))) = _
    rw [if_neg (fun z => h (by rw [z]; exact List.mem_cons_self)), spn_line (fun z => h (List.mem_cons_of_mem _ z)), List.append_assoc]
    rfl
theorem spn_last : ∀ {l acc : List Nat}, 10 ∉ l → spn acc l = [acc ++ l]
  | [], acc, _ => by rw [List.append_nil]; rfl
  | c :: l, acc, h => by
    show (if c = 10 then acc :: spn [] l else spn (acc ++ [c]) l) = _
    rw [if_neg (fun z => h (by rw [z]; exact List.mem_cons_self)), spn_last (fun z => h (List.mem_cons_of_mem _ z)), List.append_assoc]
    rfl
theorem spn_join : ∀ {ls : List (List Nat)} {r : List Nat}, (∀ l ∈ ls, 10 ∉ l) → spn [] (joinN ls ++ r) = ls ++ spn [] r
  | [], r, _ => rfl
  | l :: ls, r, h => by
    show spn [] ((l ++ (10 :: joinN ls)) ++ r) = _
    rw [List.append_assoc, List.cons_append, spn_line (h l List.mem_cons_self), spn_join fun l hl => h l (List.mem_cons_of_mem _ hl)]
    rfl
theorem lns_join {ls : List (List Nat)} (h : ∀ l ∈ ls, 10 ∉ l) : lns (joinN ls) = ls := by
  have e := spn_join (r := []) h
  rw [List.append_nil] at e
  unfold lns
  rw [e, show spn [] [] = [[]] from rfl, if_pos (by simp), List.dropLast_concat]
theorem lns_open {ls : List (List Nat)} {l : List Nat} (h : ∀ l ∈ ls, 10 ∉ l) (hl : 10 ∉ l) (hne : l ≠ []) : lns (joinN ls ++ l) = ls ++ [l] := by
  have e := spn_join (r := l) h
  rw [spn_last hl] at e
  unfold lns
  rw [e, if_neg (by simp [hne])]
  rfl
theorem pLines_app : ∀ {xs ys : List (List Nat)} {k : Nat} {st st' : Pst}, pLines k st xs = .ok st' → pLines k st (xs ++ ys) = pLines (k + xs.length) st' ys
  | [], ys, k, st, st', h => by cases h; rfl
  | x :: xs, ys, k, st, st', h => by
    have h : (match pLine st x with | .error c => .error (k, c) | .ok s1 => pLines (k + 1) s1 xs : Except (Nat × Nat) Pst) = .ok st' := h
    cases e : pLine st x with
    | error c => rw [e] at h; cases h
    | ok s1 =>
      rw [e] at h
      show (match pLine st x with | .error c => .error (k, c) | .ok s1 => pLines (k + 1) s1 (xs ++ ys) : Except (Nat × Nat) Pst) = _
      rw [e]
      show pLines (k + 1) s1 (xs ++ ys) = _
      rw [pLines_app h, List.length_cons, show k + 1 + xs.length = k + (xs.length + 1) by omega]
theorem pLines_one {k : Nat} {st st' : Pst} {l : List Nat} (h : pLine st l = .ok st') : pLines k st [l] = .ok st' := by
  show (match pLine st l with | .error c => .error (k, c) | .ok s1 => pLines (k + 1) s1 [] : Except (Nat × Nat) Pst) = _
  rw [h]
  rfl

end Vf

set_option maxRecDepth 100000
set_option maxHeartbeats 8000000
namespace Vf
open PySem PySem.Spec PyProof.Rows L2
/-! ### programs that the law makes -/
structure LS where
  name : List Nat
  sign : List Nat
  one : LOp
  oth : LOp
abbrev Dn' := List (List Nat × Nat)
abbrev Tn' := List (List Nat × List Int)
def pos {α : Type} : List (List Nat × α) → List Nat → Nat
  | [], _ => 0
  | p :: l, n => if p.1 = n then 0 else pos l n + 1
theorem pos_app {α : Type} {e : List (List Nat × α)} {n : List Nat} : ∀ {l : List (List Nat × α)}, n ∈ l.map (·.1) → pos (l ++ e) n = pos l n
  | p :: l, h => by
    show (if p.1 = n then 0 else pos (l ++ e) n + 1) = (if p.1 = n then 0 else pos l n + 1)
    by_cases hp : p.1 = n
    · rw [if_pos hp, if_pos hp]
    · rw [if_neg hp, if_neg hp, pos_app]
      rcases List.mem_cons.mp h with z | z
      · exact absurd z.symm hp
      · exact z
theorem pos_end {α : Type} {n : List Nat} {d : α} : ∀ {l : List (List Nat × α)}, n ∉ l.map (·.1) → pos (l ++ [(n, d)]) n = l.length
  | [], _ => by
    show (if n = n then 0 else _) = 0
    rw [if_pos rfl]
  | p :: l, h => by
    show (if p.1 = n then 0 else pos (l ++ [(n, d)]) n + 1) = _
    rw [if_neg (fun z => h (by rw [← z]; exact List.mem_cons_self)), pos_end fun z => h (List.mem_cons_of_mem _ z)]
    rfl
theorem pos_lt {α : Type} {n : List Nat} : ∀ {l : List (List Nat × α)}, n ∈ l.map (·.1) → ∃ d, l[pos l n]? = some (n, d)
  | p :: l, h => by
    by_cases hp : p.1 = n
    · refine ⟨p.2, ?_⟩
      show (p :: l)[if p.1 = n then 0 else pos l n + 1]? = _
      rw [if_pos hp, ← hp]
      rfl
    · have h2 : n ∈ l.map (·.1) := by
        rcases List.mem_cons.mp h with z | z
        · exact absurd z.symm hp
        · exact z
      obtain ⟨d, e⟩ := pos_lt h2
      refine ⟨d, ?_⟩
      show (p :: l)[if p.1 = n then 0 else pos l n + 1]? = _
      rw [if_neg hp]
      exact e
/-- an operand of this degree -/
def OpOk (dn : Dn') : LOp → Nat → Prop
  | .nm n, d => n ∈ dn.map (·.1) ∧ dn[pos dn n]? = some (n, d)
  | .nu z, d => d = 0 ∧ z.natAbs < 2 ^ 97
def opdOf (dn : Dn') : LOp → Opd
  | .nm n => .plc (pos dn n)
  | .nu z => .num z
def nuN : LOp → Nat
  | .nu z => z.natAbs
  | .nm _ => 0
def nmN : LOp → List Nat
  | .nm n => n
  | .nu _ => []
/-- a step of the law, as the reader has it -/
def toStp (tn : Tn') (dn : Dn') (s : LS) : Stp :=
  if s.sign = [91] then ⟨s.name, [91], opdOf dn s.oth, .cnt (pos tn (nmN s.one))⟩
  else if s.sign = [] then ⟨s.name, [], opdOf dn s.one, .non⟩
  else if s.sign = [62] ∨ s.sign = [60] ∨ s.sign = [38] then ⟨s.name, opX s.sign, opdOf dn s.one, .cnt (nuN s.oth)⟩
  else ⟨s.name, s.sign, opdOf dn s.one, .opd (opdOf dn s.oth)⟩
inductive StepOk (tn : Tn') (dn : Dn') (s : LS) (d : Nat) : Prop
  | same : s.sign = [] → OpOk dn s.one d → StepOk tn dn s d
  | add {d1 d2 : Nat} : s.sign = [43] ∨ s.sign = [45] → OpOk dn s.one d1 → OpOk dn s.oth d2 → d = max d1 d2 → StepOk tn dn s d
  | mul {d1 d2 : Nat} : s.sign = [42] → OpOk dn s.one d1 → OpOk dn s.oth d2 → d = d1 + d2 → 1 ≤ d → d ≤ 4 → StepOk tn dn s d
  | cut {k : Nat} : s.sign = [62] ∨ s.sign = [60] ∨ s.sign = [38] → OpOk dn s.one d → s.oth = .nu (k : Int) → k ≤ 4 → StepOk tn dn s d
  | cell {n : List Nat} {d1 : Nat} : s.sign = [91] → s.one = .nm n → n ∈ tn.map (·.1) → OpOk dn s.oth d1 → d ≤ 4 → StepOk tn dn s d
structure NewOk (tn : Tn') (dn : Dn') (n : List Nat) : Prop where
  nm : Nm n
  nx : n ≠ [120]
  nt : n ≠ tableW
  nd : n ∉ dn.map (·.1)
  nb : n ∉ tn.map (·.1)
inductive Wf (tn : Tn') : List LS → Dn' → Prop
  | nil : Wf tn [] [([120], 1)]
  | snoc {ss : List LS} {dn : Dn'} {s : LS} {d : Nat} : Wf tn ss dn → StepOk tn dn s d → d ≤ 4 → NewOk tn dn s.name → Wf tn (ss ++ [s]) (dn ++ [(s.name, d)])
theorem Wf.len {tn : Tn'} {ss : List LS} {dn : Dn'} (h : Wf tn ss dn) : dn.length = ss.length + 1 := by
  induction h with
  | nil => rfl
  | snoc _ _ _ _ ih => rw [List.length_append, List.length_append, ih]; rfl
theorem opdOf_app {dn e : Dn'} {o : LOp} {d : Nat} (h : OpOk dn o d) : opdOf (dn ++ e) o = opdOf dn o := by
  cases o with
  | nu z => rfl
  | nm n => exact congrArg Opd.plc (pos_app h.1)
theorem toStp_app {tn : Tn'} {dn e : Dn'} {s : LS} {d : Nat} (h : StepOk tn dn s d) : toStp tn (dn ++ e) s = toStp tn dn s := by
  obtain ⟨nm, sg, one, oth⟩ := s
  cases h with
  | same h1 h2 =>
    cases h1
    show (⟨nm, [], opdOf (dn ++ e) one, .non⟩ : Stp) = ⟨nm, [], opdOf dn one, .non⟩
    rw [opdOf_app h2]
  | add h1 h2 h3 _ =>
    rcases h1 with h1 | h1 <;> cases h1
    · show (⟨nm, [43], opdOf (dn ++ e) one, .opd (opdOf (dn ++ e) oth)⟩ : Stp) = ⟨nm, [43], opdOf dn one, .opd (opdOf dn oth)⟩
      rw [opdOf_app h2, opdOf_app h3]
    · show (⟨nm, [45], opdOf (dn ++ e) one, .opd (opdOf (dn ++ e) oth)⟩ : Stp) = ⟨nm, [45], opdOf dn one, .opd (opdOf dn oth)⟩
      rw [opdOf_app h2, opdOf_app h3]
  | mul h1 h2 h3 _ _ _ =>
    cases h1
    show (⟨nm, [42], opdOf (dn ++ e) one, .opd (opdOf (dn ++ e) oth)⟩ : Stp) = ⟨nm, [42], opdOf dn one, .opd (opdOf dn oth)⟩
    rw [opdOf_app h2, opdOf_app h3]
  | cut h1 h2 _ _ =>
    rcases h1 with h1 | h1 | h1 <;> cases h1
    · show (⟨nm, [62, 62], opdOf (dn ++ e) one, .cnt (nuN oth)⟩ : Stp) = ⟨nm, [62, 62], opdOf dn one, .cnt (nuN oth)⟩
      rw [opdOf_app h2]
    · show (⟨nm, [60, 60], opdOf (dn ++ e) one, .cnt (nuN oth)⟩ : Stp) = ⟨nm, [60, 60], opdOf dn one, .cnt (nuN oth)⟩
      rw [opdOf_app h2]
    · show (⟨nm, [38], opdOf (dn ++ e) one, .cnt (nuN oth)⟩ : Stp) = ⟨nm, [38], opdOf dn one, .cnt (nuN oth)⟩
      rw [opdOf_app h2]
  | cell h1 _ _ h3 _ =>
    cases h1
    show (⟨nm, [91], opdOf (dn ++ e) oth, .cnt (pos tn (nmN one))⟩ : Stp) = ⟨nm, [91], opdOf dn oth, .cnt (pos tn (nmN one))⟩
    rw [opdOf_app h3]
theorem Wf.ok {tn : Tn'} {ss : List LS} {dn : Dn'} (h : Wf tn ss dn) : ∀ s ∈ ss, ∃ d dn' e, dn = dn' ++ e ∧ StepOk tn dn' s d := by
  induction h with
  | nil => intro s hs; cases hs
  | @snoc ss dn s d h1 h2 h3 h4 ih =>
    intro y hy
    rcases List.mem_append.mp hy with hy | hy
    · obtain ⟨d', dn', e, rfl, ok⟩ := ih y hy
      exact ⟨d', dn', e ++ [(s.name, d)], by rw [List.append_assoc], ok⟩
    · rw [List.mem_singleton.mp hy]
      exact ⟨d, dn, _, rfl, h2⟩
theorem Wf.map {tn : Tn'} {ss : List LS} {dn e : Dn'} (h : Wf tn ss dn) : ss.map (toStp tn (dn ++ e)) = ss.map (toStp tn dn) := by
  refine List.map_congr_left fun s hs => ?_
  obtain ⟨d, dn', e', rfl, ok⟩ := h.ok s hs
  rw [List.append_assoc, toStp_app ok, toStp_app ok]
/-! what is printed of a step -/
def valT (gp : Nat) (s : LS) : List Nat :=
  if s.sign = [] then shO s.one
  else if s.sign = [91] then shO s.one ++ (91 :: (shO s.oth ++ [93]))
  else shO s.one ++ (sp gp ++ (opX s.sign ++ (sp gp ++ shO s.oth)))
/-- what the reader knows of names -/
structure EnvR (env : Env') (tn : Tn') (dn : Dn') : Prop where
  hd : ∀ n, n ∈ dn.map (·.1) → Nm n ∧ envGet env n = some (false, pos dn n)
  ht : ∀ n, n ∈ tn.map (·.1) → Nm n ∧ envGet env n = some (true, pos tn n)
  hn : ∀ n, n ∉ dn.map (·.1) → n ∉ tn.map (·.1) → envGet env n = none
theorem lt30 {z : Int} (h : z.natAbs < 2 ^ 97) : z.natAbs < 10 ^ 30 := Nat.lt_trans h (by decide)
theorem OpOk.kn {env : Env'} {tn : Tn'} {dn : Dn'} {o : LOp} {d : Nat} (R : EnvR env tn dn) (h : OpOk dn o d) : Kn env o (opdOf dn o) := by
  cases o with
  | nu z => exact ⟨lt30 h.2, rfl⟩
  | nm n => exact ⟨(R.hd n h.1).1, _, (R.hd n h.1).2, rfl⟩
theorem intT_nat (k : Nat) : intT (k : Int) = digs k := by
  unfold intT
  rw [if_neg (by omega), Int.natAbs_natCast]
theorem StepOk.val {env : Env'} {tn : Tn'} {dn : Dn'} {s : LS} {d : Nat} (R : EnvR env tn dn) (h : StepOk tn dn s d) (gp : Nat) : ValB env (valT gp s) ((toStp tn dn s).sign, (toStp tn dn s).one, (toStp tn dn s).oth) := by
  obtain ⟨nm, sg, one, oth⟩ := s
  cases h with
  | same h1 h2 =>
    cases h1
    exact .plain (h2.kn R)
  | add h1 h2 h3 _ =>
    rcases h1 with h1 | h1 <;> cases h1
    · exact .ari (h2.kn R) (h3.kn R) (.inl rfl)
    · exact .ari (h2.kn R) (h3.kn R) (.inr (.inl rfl))
  | mul h1 h2 h3 _ _ _ =>
    cases h1
    exact .ari (h2.kn R) (h3.kn R) (.inr (.inr rfl))
  | @cut k h1 h2 h3 h4 =>
    cases h3
    have e : shO (.nu (k : Int)) = digs k := intT_nat k
    have k60 : k ≤ 60 := by omega
    rcases h1 with h1 | h1 | h1 <;> cases h1
    · show ValB env (shO one ++ (sp gp ++ (62 :: 62 :: (sp gp ++ shO (.nu (k : Int)))))) ([62, 62], opdOf dn one, .cnt (k : Int).natAbs)
      rw [e, Int.natAbs_natCast]
      exact .shift (h2.kn R) (.inr rfl) k60
    · show ValB env (shO one ++ (sp gp ++ (60 :: 60 :: (sp gp ++ shO (.nu (k : Int)))))) ([60, 60], opdOf dn one, .cnt (k : Int).natAbs)
      rw [e, Int.natAbs_natCast]
      exact .shift (h2.kn R) (.inl rfl) k60
    · show ValB env (shO one ++ (sp gp ++ (38 :: (sp gp ++ shO (.nu (k : Int)))))) ([38], opdOf dn one, .cnt (k : Int).natAbs)
      rw [e, Int.natAbs_natCast]
      exact .rest (h2.kn R) k60
  | @cell n d1 h1 h2 h3 h4 _ =>
    cases h1
    cases h2
    exact .cell (R.ht n h3).1 (R.ht n h3).2 (h4.kn R)
inductive Prt : List LS → List (List Nat) → Prop
  | nil : Prt [] []
  | step {ss : List LS} {ls : List (List Nat)} {s : LS} {g0 g gp k : Nat} : Prt ss ls → Prt (ss ++ [s]) (ls ++ [stepT g0 g s.name (valT gp s) k])
  | blank {ss : List LS} {ls : List (List Nat)} {g : Nat} : Prt ss ls → Prt ss (ls ++ [sp g])
theorem envGet_app {e : Env'} {n : List Nat} : ∀ {env : Env'}, envGet (env ++ e) n = match envGet env n with | some p => some p | none => envGet e n
  | [] => rfl
  | p :: env => by
    show (if p.1 = n then some p.2 else envGet (env ++ e) n) = (match (if p.1 = n then some p.2 else envGet env n) with | some p => some p | none => envGet e n)
    split
    · rfl
    · exact envGet_app
theorem EnvR.snoc {env : Env'} {tn : Tn'} {dn : Dn'} {n : List Nat} {d : Nat} (R : EnvR env tn dn) (h : NewOk tn dn n) : EnvR (env ++ [(n, false, dn.length)]) tn (dn ++ [(n, d)]) where
  hd := fun y hy => by
    rw [List.map_append] at hy
    rcases List.mem_append.mp hy with hy | hy
    · obtain ⟨h1, h2⟩ := R.hd y hy
      exact ⟨h1, by rw [envGet_app, h2, pos_app hy]⟩
    · rw [List.mem_singleton.mp hy]
      exact ⟨h.nm, by
        rw [envGet_app, R.hn n h.nd h.nb, pos_end h.nd]
        show (if n = n then some _ else _) = _
        rw [if_pos rfl]⟩
  ht := fun y hy => by
    obtain ⟨h1, h2⟩ := R.ht y hy
    exact ⟨h1, by rw [envGet_app, h2]⟩
  hn := fun y h1 h2 => by
    rw [List.map_append] at h1
    rw [envGet_app, R.hn y (fun z => h1 (List.mem_append_left _ z)) h2]
    show (if n = y then some _ else none) = none
    rw [if_neg fun z => h1 (List.mem_append_right _ (by rw [z]; exact List.mem_cons_self))]
/-- the steps that are printed are read -/
theorem read_steps {k : Nat} {tn : Tn'} {ss : List LS} {ls : List (List Nat)} (p : Prt ss ls) : ∀ {dn : Dn'} {st : Pst}, Wf tn ss dn → EnvR st.env tn [([120], 1)] → st.steps = [] →
    ∃ env, pLines k st ls = .ok ⟨st.tabs, ss.map (toStp tn dn), env⟩ ∧ EnvR env tn dn := by
  induction p with
  | nil =>
    intro dn st w R h0
    generalize hs : ([] : List LS) = ss at w
    cases w with
    | nil => exact ⟨st.env, by rw [show st = ⟨st.tabs, [], st.env⟩ from by cases st; cases h0; rfl]; rfl, R⟩
    | snoc _ _ _ _ => simp at hs
  | @step ss ls s g0 g gp m _ ih =>
    intro dn st w R h0
    generalize hs : ss ++ [s] = ss' at w
    cases w with
    | nil => simp at hs
    | @snoc ss2 dn2 s2 d w h2 _ h4 =>
      obtain ⟨rfl, e⟩ := List.append_inj' hs rfl
      cases e
      obtain ⟨env, e1, R1⟩ := ih w R h0
      refine ⟨env ++ [(s.name, false, dn2.length)], ?_, R1.snoc h4⟩
      rw [pLines_app e1]
      have hn : NewN env s.name := ⟨h4.nm, h4.nx, h4.nt, R1.hn _ h4.nd h4.nb⟩
      refine pLines_one ?_
      rw [read_step (st := ⟨st.tabs, ss.map (toStp tn dn2), env⟩) hn (h2.val R1 gp)]
      have e2 : (toStp tn dn2 s).name = s.name := by
        unfold toStp
        split
        · rfl
        · split
          · rfl
          · split <;> rfl
      have e3 : (⟨s.name, (toStp tn dn2 s).sign, (toStp tn dn2 s).one, (toStp tn dn2 s).oth⟩ : Stp) = toStp tn dn2 s := by rw [← e2]
      show Except.ok (Pst.mk st.tabs (ss.map (toStp tn dn2) ++ [(⟨s.name, (toStp tn dn2 s).sign, (toStp tn dn2 s).one, (toStp tn dn2 s).oth⟩ : Stp)]) (env ++ [(s.name, false, (ss.map (toStp tn dn2)).length + 1)])) = _
      rw [e3, List.map_append, w.map, List.map_singleton, toStp_app h2, List.length_map, w.len]
  | @blank ss ls g _ ih =>
    intro dn st w R h0
    obtain ⟨env, e1, R1⟩ := ih w R h0
    refine ⟨env, ?_, R1⟩
    rw [pLines_app e1]
    exact pLines_one (read_blank _ g)

end Vf

set_option maxRecDepth 100000
set_option maxHeartbeats 8000000
namespace Vf
open PySem PySem.Spec PyProof.Rows L2
/-! ### what such a program tells, and how great it is -/
theorem runs_app {tabs : List (List Int)} {s : Stp} : ∀ {ss : List Stp} {fs : List Int}, runs tabs fs (ss ++ [s]) = (match runs tabs fs ss with
    | none => none
    | some none => some none
    | some (some gs) => runs tabs gs [s])
  | [], fs => rfl
  | y :: ss, fs => by
    show (match stp tabs fs y with | none => none | some none => some none | some (some z) => if z.natAbs < 2 ^ BigZ then runs tabs (fs ++ [z]) (ss ++ [s]) else none) =
      (match (match stp tabs fs y with | none => none | some none => some none | some (some z) => if z.natAbs < 2 ^ BigZ then runs tabs (fs ++ [z]) ss else none : Option (Option (List Int))) with | none => none | some none => some none | some (some gs) => runs tabs gs [s])
    cases stp tabs fs y with
    | none => rfl
    | some v =>
      cases v with
      | none => rfl
      | some z =>
        show (if z.natAbs < 2 ^ BigZ then runs tabs (fs ++ [z]) (ss ++ [s]) else none) = (match (if z.natAbs < 2 ^ BigZ then runs tabs (fs ++ [z]) ss else none : Option (Option (List Int))) with | none => none | some none => some none | some (some gs) => runs tabs gs [s])
        by_cases h : z.natAbs < 2 ^ BigZ
        · rw [if_pos h, if_pos h]
          exact runs_app
        · rw [if_neg h, if_neg h]
theorem runs_one {tabs : List (List Int)} {s : Stp} {fs : List Int} {z : Int} (h : stp tabs fs s = some (some z)) (hz : z.natAbs < 2 ^ BigZ) : runs tabs fs [s] = some (some (fs ++ [z])) := by
  show (match stp tabs fs s with | none => none | some none => some none | some (some z) => if z.natAbs < 2 ^ BigZ then runs tabs (fs ++ [z]) [] else none) = _
  rw [h]
  show (if z.natAbs < 2 ^ BigZ then runs tabs (fs ++ [z]) [] else none) = _
  rw [if_pos hz]
  rfl
theorem runs_wide {tabs : List (List Int)} {s : Stp} {fs : List Int} (h : stp tabs fs s = some none) : runs tabs fs [s] = some none := by
  show (match stp tabs fs s with | none => none | some none => some none | some (some z) => if z.natAbs < 2 ^ BigZ then runs tabs (fs ++ [z]) [] else none) = _
  rw [h]
def bnd (d k : Nat) : Nat := if d = 0 then 100 + 5 * k else d * (140 + 170 * k)
theorem bnd_up (d k : Nat) : bnd d k + 4 ≤ bnd d (k + 1) := by
  unfold bnd
  split
  · omega
  · next h =>
    have : d * (140 + 170 * (k + 1)) = d * (140 + 170 * k) + d * 170 := by rw [← Nat.mul_add]; rfl
    have : 1 ≤ d := by omega
    have : 1 * 170 ≤ d * 170 := Nat.mul_le_mul_right 170 this
    omega
theorem bnd_mono {d e k : Nat} (h : d ≤ e) : bnd d k ≤ bnd e k := by
  unfold bnd
  by_cases d0 : d = 0
  · rw [if_pos d0]
    by_cases e0 : e = 0
    · rw [if_pos e0]; exact Nat.le_refl _
    · rw [if_neg e0]
      have : 1 * (140 + 170 * k) ≤ e * (140 + 170 * k) := Nat.mul_le_mul_right _ (by omega)
      omega
  · rw [if_neg d0, if_neg (by omega)]
    exact Nat.mul_le_mul_right _ h
theorem bnd_mul {d e k : Nat} (h : 1 ≤ d + e) (hk : k ≤ 12) : bnd d k + bnd e k ≤ bnd (d + e) (k + 1) := by
  unfold bnd
  rw [if_neg (show ¬ d + e = 0 by omega)]
  have e1 : (d + e) * (140 + 170 * (k + 1)) = d * (140 + 170 * k) + e * (140 + 170 * k) + (d + e) * 170 := by
    rw [show 140 + 170 * (k + 1) = (140 + 170 * k) + 170 by omega, Nat.mul_add, Nat.add_mul]
  have e2 : 1 * 170 ≤ (d + e) * 170 := Nat.mul_le_mul_right 170 h
  rw [e1]
  by_cases d0 : d = 0
  · rw [if_pos d0]
    subst d0
    rw [if_neg (by omega)]
    omega
  · rw [if_neg d0]
    by_cases e0 : e = 0
    · rw [if_pos e0]
      subst e0
      omega
    · rw [if_neg e0]
      omega
theorem bnd_big {d k : Nat} (hd : d ≤ 4) (hk : k ≤ 12) : bnd d k ≤ BigZ := by
  refine Nat.le_trans (bnd_mono hd) ?_
  unfold bnd BigZ
  rw [if_neg (by decide)]
  omega
theorem bnd_97 (d k : Nat) : 97 ≤ bnd d k := Nat.le_trans (by unfold bnd; rw [if_pos rfl]; omega) (bnd_mono (Nat.zero_le d))
theorem lt_pow {z : Int} {a b : Nat} (h : z.natAbs < 2 ^ a) (hab : a ≤ b) : z.natAbs < 2 ^ b := Nat.lt_of_lt_of_le h (Nat.pow_le_pow_right (by decide) hab)
/-- what is told of each name so far -/
def Held' (dn : Dn') (k : Nat) (fs : List Int) : Prop := fs.length = dn.length ∧ ∀ (i : Nat) (n : List Nat) (d : Nat) (v : Int), dn[i]? = some (n, d) → fs[i]? = some v → d ≤ 4 ∧ v.natAbs < 2 ^ bnd d k
theorem OpOk.val {dn : Dn'} {k : Nat} {fs : List Int} {o : LOp} {d : Nat} (h : Held' dn k fs) (hk : k ≤ 12) (ok : OpOk dn o d) : ∃ m, oVal fs (opdOf dn o) = some m ∧ m.natAbs < 2 ^ bnd d k := by
  cases o with
  | nu z =>
    obtain ⟨rfl, hz⟩ := ok
    refine ⟨z, ?_, lt_pow hz (bnd_97 0 k)⟩
    show (if z.natAbs < 2 ^ BigZ then some z else none) = _
    rw [if_pos (lt_pow hz (by unfold BigZ; omega))]
  | nm n =>
    obtain ⟨h1, h2⟩ := ok
    have lt : pos dn n < fs.length := by rw [h.1]; exact (List.getElem?_eq_some_iff.mp h2).1
    have e := List.getElem?_eq_getElem lt
    exact ⟨_, e, (h.2 _ _ _ _ h2 e).2⟩
theorem add_lt {a b : Int} {x y n : Nat} (ha : a.natAbs < 2 ^ x) (hb : b.natAbs < 2 ^ y) (hx : x + 1 ≤ n) (hy : y + 1 ≤ n) : (a + b).natAbs < 2 ^ n := by
  obtain ⟨m, rfl⟩ : ∃ m, n = m + 1 := ⟨n - 1, by omega⟩
  have h1 := lt_pow ha (show x ≤ m by omega)
  have h2 := lt_pow hb (show y ≤ m by omega)
  have := Int.natAbs_add_le a b
  rw [Nat.pow_succ]
  omega
theorem step_fine {tn : Tn'} {dn : Dn'} {s : LS} {d k : Nat} {fs : List Int} (h : Held' dn k fs) (hk : k < 12) (ok : StepOk tn dn s d) (hd : d ≤ 4) (ht : ∀ p ∈ tn, ∀ z ∈ p.2, z.natAbs < 2 ^ 97) :
    stp (tn.map (·.2)) fs (toStp tn dn s) = some none ∨ ∃ z, stp (tn.map (·.2)) fs (toStp tn dn s) = some (some z) ∧ z.natAbs < 2 ^ bnd d (k + 1) := by
  obtain ⟨nm, sg, one, oth⟩ := s
  cases ok with
  | same h1 h2 =>
    cases h1
    obtain ⟨m, e, hm⟩ := h2.val h (by omega)
    refine .inr ⟨m, ?_, lt_pow hm (Nat.le_trans (by omega) (bnd_up d k))⟩
    show (match oVal fs (opdOf dn one) with | none => none | some n => some (some n)) = _
    rw [e]
  | @add d1 d2 h1 h2 h3 h4 =>
    obtain ⟨m1, e1, hm1⟩ := h2.val h (by omega)
    obtain ⟨m2, e2, hm2⟩ := h3.val h (by omega)
    have b1 : bnd d1 k + 1 ≤ bnd d (k + 1) := by
      have := bnd_mono (k := k) (show d1 ≤ d by omega)
      have := bnd_up d k
      omega
    have b2 : bnd d2 k + 1 ≤ bnd d (k + 1) := by
      have := bnd_mono (k := k) (show d2 ≤ d by omega)
      have := bnd_up d k
      omega
    rcases h1 with h1 | h1 <;> cases h1
    · refine .inr ⟨m1 + m2, ?_, add_lt hm1 hm2 b1 b2⟩
      show (match oVal fs (opdOf dn one) with | none => none | some n => (match oVal fs (opdOf dn oth) with | some m => some (some (n + m)) | none => none)) = _
      rw [e1, e2]
    · refine .inr ⟨m1 - m2, ?_, ?_⟩
      · show (match oVal fs (opdOf dn one) with | none => none | some n => (match oVal fs (opdOf dn oth) with | some m => some (some (n - m)) | none => none)) = _
        rw [e1, e2]
      · rw [Int.sub_eq_add_neg]
        exact add_lt hm1 (by rw [Int.natAbs_neg]; exact hm2) b1 b2
  | @mul d1 d2 h1 h2 h3 h4 h5 _ =>
    cases h1
    obtain ⟨m1, e1, hm1⟩ := h2.val h (by omega)
    obtain ⟨m2, e2, hm2⟩ := h3.val h (by omega)
    refine .inr ⟨m1 * m2, ?_, ?_⟩
    · show (match oVal fs (opdOf dn one) with | none => none | some n => (match oVal fs (opdOf dn oth) with | some m => some (some (n * m)) | none => none)) = _
      rw [e1, e2]
    · rw [Int.natAbs_mul, h4]
      refine Nat.lt_of_lt_of_le (Nat.mul_lt_mul'' hm1 hm2) ?_
      rw [← Nat.pow_add]
      exact Nat.pow_le_pow_right (by decide) (bnd_mul (by omega) (by omega))
  | @cut c h1 h2 h3 h4 =>
    cases h3
    obtain ⟨m, e, hm⟩ := h2.val h (by omega)
    have up := bnd_up d k
    have c60 : c ≤ 60 := by omega
    have shp : ∀ sg2, stp (tn.map (·.2)) fs ⟨nm, sg2, opdOf dn one, .cnt (nuN (.nu (c : Int)))⟩ = some (some (shf sg2 m c)) → (shf sg2 m c).natAbs < 2 ^ bnd d (k + 1) → (stp (tn.map (·.2)) fs ⟨nm, sg2, opdOf dn one, .cnt (nuN (.nu (c : Int)))⟩ = some none ∨ ∃ z, stp (tn.map (·.2)) fs ⟨nm, sg2, opdOf dn one, .cnt (nuN (.nu (c : Int)))⟩ = some (some z) ∧ z.natAbs < 2 ^ bnd d (k + 1)) := fun sg2 a b => .inr ⟨_, a, b⟩
    have st : ∀ sg2, sg2 = [60, 60] ∨ sg2 = [62, 62] ∨ sg2 = [38] → stp (tn.map (·.2)) fs ⟨nm, sg2, opdOf dn one, .cnt (nuN (.nu (c : Int)))⟩ = some (some (shf sg2 m c)) := fun sg2 hs => by
      have hn : nuN (.nu (c : Int)) = c := Int.natAbs_natCast c
      rw [hn]
      rcases hs with rfl | rfl | rfl
      all_goals
        show (match oVal fs (opdOf dn one) with | none => none | some n => if c ≤ 60 then some (some (shf _ n c)) else none) = _
        rw [e]
        show (if c ≤ 60 then some (some (shf _ m c)) else none) = _
        rw [if_pos c60]
    rcases h1 with h1 | h1 | h1 <;> cases h1
    · refine shp [62, 62] (st _ (.inr (.inl rfl))) ?_
      show (m / 2 ^ c).natAbs < _
      exact lt_pow (Nat.lt_of_le_of_lt (Int.natAbs_ediv_le_natAbs m (2 ^ c)) hm) (by omega)
    · refine shp [60, 60] (st _ (.inl rfl)) ?_
      show (m * 2 ^ c).natAbs < _
      rw [Int.natAbs_mul, Int.natAbs_pow]
      refine Nat.lt_of_lt_of_le ((Nat.mul_lt_mul_right (Nat.pow_pos (by decide))).mpr hm) ?_
      show 2 ^ bnd d k * 2 ^ c ≤ _
      rw [← Nat.pow_add]
      exact Nat.pow_le_pow_right (by decide) (by omega)
    · refine shp [38] (st _ (.inr (.inr rfl))) ?_
      show (m % 2 ^ c).natAbs < _
      have p0 : (0 : Int) < 2 ^ c := Int.pow_pos (by decide)
      have a0 := Int.emod_nonneg m (show (2 : Int) ^ c ≠ 0 by omega)
      have a1 := Int.emod_lt_of_pos m p0
      have a2 : (m % 2 ^ c).natAbs < 2 ^ c := by
        have : ((2 ^ c : Nat) : Int) = 2 ^ c := by rw [Int.natCast_pow]; rfl
        omega
      exact lt_pow a2 (by have := bnd_97 d (k + 1); omega)
  | @cell n d1 h1 h2 h3 h4 _ =>
    cases h1
    cases h2
    obtain ⟨m, e, hm⟩ := h4.val h (by omega)
    obtain ⟨ns, hns⟩ := pos_lt h3
    have tb : (tn.map (·.2))[pos tn n]? = some ns := by rw [List.getElem?_map, hns]; rfl
    obtain ⟨tabs, htb⟩ : ∃ tabs : List (List Int), tabs = tn.map (·.2) := ⟨_, rfl⟩
    rw [← htb] at tb ⊢
    have st : stp tabs fs (toStp tn dn ⟨nm, [91], .nm n, oth⟩) = if 0 ≤ m ∧ m < ns.length then some ns[m.toNat]? else some none := by
      show (match oVal fs (opdOf dn oth) with | none => none | some n1 => (match tabs[pos tn n]? with | none => none | some ns => if 0 ≤ n1 ∧ n1 < ns.length then some ns[n1.toNat]? else some none)) = _
      rw [e]
      show (match tabs[pos tn n]? with | none => none | some ns => if 0 ≤ m ∧ m < ns.length then some ns[m.toNat]? else some none) = _
      rw [tb]
    rw [st]
    by_cases hi : 0 ≤ m ∧ m < ns.length
    · rw [if_pos hi]
      have lt : m.toNat < ns.length := by omega
      refine .inr ⟨ns[m.toNat], by rw [List.getElem?_eq_getElem lt], ?_⟩
      exact lt_pow (ht _ (List.mem_of_getElem? hns) _ (List.getElem_mem lt)) (bnd_97 _ _)
    · rw [if_neg hi]
      exact .inl rfl
theorem runs_fine {tn : Tn'} {ss : List LS} {dn : Dn'} {z : Int} (w : Wf tn ss dn) (ht : ∀ p ∈ tn, ∀ z ∈ p.2, z.natAbs < 2 ^ 97) (hz : z.natAbs < 2 ^ 139) : ss.length ≤ 12 →
    runs (tn.map (·.2)) [z] (ss.map (toStp tn dn)) = some none ∨ ∃ fs, runs (tn.map (·.2)) [z] (ss.map (toStp tn dn)) = some (some fs) ∧ Held' dn ss.length fs := by
  induction w with
  | nil =>
    intro _
    refine .inr ⟨[z], rfl, rfl, fun i n d v h1 h2 => ?_⟩
    match i, h1, h2 with
    | 0, h1, h2 =>
      cases h1
      cases h2
      exact ⟨by decide, lt_pow hz (by decide)⟩
  | @snoc ss dn s d w ok hd hn ih =>
    intro hl
    rw [List.length_append] at hl
    have hl : ss.length < 12 := hl
    rw [List.map_append, w.map, List.map_singleton, toStp_app ok, runs_app]
    rcases ih (by omega) with h | ⟨fs, h, hh⟩
    · rw [h]
      exact .inl rfl
    · rw [h]
      show runs (tn.map (·.2)) fs [toStp tn dn s] = some none ∨ _
      rcases step_fine hh hl ok hd ht with h2 | ⟨v, h2, hv⟩
      · exact .inl (runs_wide h2)
      · refine .inr ⟨fs ++ [v], runs_one h2 (lt_pow hv (bnd_big hd (by omega))), by rw [List.length_append, List.length_append, hh.1]; rfl, fun i n e y h3 h4 => ?_⟩
        rw [List.length_append]
        show e ≤ 4 ∧ y.natAbs < 2 ^ bnd e (ss.length + 1)
        by_cases hi : i < dn.length
        · rw [List.getElem?_append_left hi] at h3
          rw [List.getElem?_append_left (by rw [hh.1]; exact hi)] at h4
          obtain ⟨a, b⟩ := hh.2 i n e y h3 h4
          exact ⟨a, lt_pow b (by have := bnd_up e ss.length; omega)⟩
        · rw [List.getElem?_append_right (by omega)] at h3
          rw [List.getElem?_append_right (by rw [hh.1]; omega), hh.1] at h4
          match hq : i - dn.length, h3, h4 with
          | 0, h3, h4 =>
            cases h3
            cases h4
            exact ⟨hd, hv⟩

end Vf

set_option maxRecDepth 100000
set_option maxHeartbeats 8000000
namespace Vf
open PySem PySem.Spec PyProof.Rows L2
/-! ### whole texts of programs -/
inductive TnOk : Tn' → Prop
  | nil : TnOk []
  | snoc {tn : Tn'} {n : List Nat} {zs : List Int} : TnOk tn → Nm n → n ≠ [120] → n ≠ tableW → n ∉ tn.map (·.1) → zs ≠ [] → (∀ z ∈ zs, z.natAbs < 2 ^ 97) → TnOk (tn ++ [(n, zs)])
theorem TnOk.fine {tn : Tn'} (h : TnOk tn) : ∀ p ∈ tn, ∀ z ∈ p.2, z.natAbs < 2 ^ 97 := by
  induction h with
  | nil => intro p hp; cases hp
  | snoc _ _ _ _ _ _ h6 ih =>
    intro p hp
    rcases List.mem_append.mp hp with hp | hp
    · exact ih p hp
    · rw [List.mem_singleton.mp hp]
      exact h6
theorem envR0 : EnvR st0.env [] [([120], 1)] where
  hd := fun n hn => by
    rw [show n = [120] by simpa using hn]
    exact ⟨⟨⟨120, rfl, by decide⟩, by decide, by decide⟩, by decide⟩
  ht := fun n hn => by cases hn
  hn := fun n h1 _ => by
    show (if [120] = n then some _ else none) = none
    rw [if_neg fun z => h1 (by rw [← z]; exact List.mem_cons_self)]
theorem read_tables {tn : Tn'} (h : TnOk tn) : ∃ env, pLines 1 st0 (tn.map fun p => tableT p.1 p.2) = .ok ⟨tn.map (·.2), [], env⟩ ∧ EnvR env tn [([120], 1)] := by
  induction h with
  | nil => exact ⟨st0.env, rfl, envR0⟩
  | @snoc tn n zs h0 h1 h2 h3 h4 h5 h6 ih =>
    obtain ⟨env, e, R⟩ := ih
    have nx : n ∉ ([([120], 1)] : Dn').map (·.1) := fun z => h2 (by simpa using z)
    refine ⟨env ++ [(n, true, (tn.map (·.2)).length)], ?_, ?_⟩
    · rw [List.map_append, pLines_app e]
      refine pLines_one ?_
      rw [read_table (st := ⟨tn.map (·.2), [], env⟩) ⟨h1, h2, h3, R.hn n nx h4⟩ rfl (fun z hz => lt30 (h6 z hz)) h5, List.map_append]
      rfl
    · refine ⟨fun y hy => ?_, fun y hy => ?_, fun y a b => ?_⟩
      · obtain ⟨a, b⟩ := R.hd y hy
        exact ⟨a, by rw [envGet_app, b]⟩
      · rw [List.map_append] at hy
        rcases List.mem_append.mp hy with hy | hy
        · obtain ⟨a, b⟩ := R.ht y hy
          exact ⟨a, by rw [envGet_app, b, pos_app hy]⟩
        · rw [List.mem_singleton.mp hy]
          refine ⟨h1, ?_⟩
          rw [envGet_app, R.hn n nx h4, pos_end h4, List.length_map]
          show (if n = n then some _ else _) = _
          rw [if_pos rfl]
      · rw [List.map_append] at b
        rw [envGet_app, R.hn y a (fun z => b (List.mem_append_left _ z))]
        show (if n = y then some _ else none) = none
        rw [if_neg fun z => b (List.mem_append_right _ (by rw [z]; exact List.mem_cons_self))]
theorem read_prog {tn : Tn'} {ss : List LS} {ls : List (List Nat)} {dn : Dn'} (ht : TnOk tn) (p : Prt ss ls) (w : Wf tn ss dn) : ∃ env, pLines 1 st0 ((tn.map fun p => tableT p.1 p.2) ++ ls) = .ok ⟨tn.map (·.2), ss.map (toStp tn dn), env⟩ := by
  obtain ⟨env, e, R⟩ := read_tables ht
  obtain ⟨env2, e2, _⟩ := read_steps (k := 1 + (tn.map fun p => tableT p.1 p.2).length) p (st := ⟨tn.map (·.2), [], env⟩) w R rfl
  exact ⟨env2, by rw [pLines_app e]; exact e2⟩
theorem prog_of {t : List Nat} {st : Pst} (h : pLines 1 st0 (lns t) = .ok st) (hs : st.steps ≠ []) : pProg t = .ok st := by
  unfold pProg
  rw [h]
  show (if st.steps = [] then _ else _) = _
  rw [if_neg hs]
/-! the line ends at the end cut off -/
def stripT (t : List Nat) : List Nat := (t.reverse.dropWhile (· == 10)).reverse
theorem strip_nl (t : List Nat) : stripT (t ++ [10]) = stripT t := by
  unfold stripT
  rw [List.reverse_append]
  rfl
theorem strip_no {t : List Nat} {c : Nat} (h : c ≠ 10) : stripT (t ++ [c]) = t ++ [c] := by
  unfold stripT
  rw [List.reverse_append]
  show (List.dropWhile (· == 10) (c :: t.reverse)).reverse = _
  rw [List.dropWhile_cons_of_neg (by simpa using h), List.reverse_cons, List.reverse_reverse]
theorem joinN_snoc {l : List Nat} : ∀ {ls : List (List Nat)}, joinN (ls ++ [l]) = joinN ls ++ l ++ [10]
  | [] => by
    show l ++ (10 :: []) = [] ++ l ++ [10]
    rfl
  | x :: ls => by
    show x ++ (10 :: joinN (ls ++ [l])) = (x ++ (10 :: joinN ls)) ++ l ++ [10]
    rw [joinN_snoc]
    simp
theorem strip_lines (n : Nat) : ∀ {ls : List (List Nat)} {k : Nat} {st st' : Pst}, ls.length = n → (∀ l ∈ ls, 10 ∉ l) → pLines k st ls = .ok st' → pLines k st (lns (stripT (joinN ls))) = .ok st' := by
  induction n with
  | zero =>
    intro ls k st st' hl _ h
    rw [List.length_eq_zero_iff.mp hl] at h ⊢
    exact h
  | succ n ih =>
    intro ls k st st' hl h10 h
    rcases List.eq_nil_or_concat ls with e | ⟨ls', l, e⟩
    · rw [e] at hl; cases hl
    · rw [List.concat_eq_append] at e
      subst e
      rw [List.length_append, List.length_singleton] at hl
      have h' : ∀ x ∈ ls', 10 ∉ x := fun x hx => h10 x (List.mem_append_left _ hx)
      have hl10 : 10 ∉ l := h10 l (List.mem_append_right _ List.mem_cons_self)
      rw [joinN_snoc, strip_nl]
      by_cases hn : l = []
      · subst hn
        rw [List.append_nil]
        cases e : pLines k st ls' with
        | error c =>
          exfalso
          have go : ∀ (xs : List (List Nat)) (k : Nat) (st : Pst) (c : Nat × Nat), pLines k st xs = .error c → pLines k st (xs ++ [[]]) = .error c := by
            intro xs
            induction xs with
            | nil => intro k st c z; cases z
            | cons x xs ih2 =>
              intro k st c z
              have z : (match pLine st x with | .error c => .error (k, c) | .ok s1 => pLines (k + 1) s1 xs : Except (Nat × Nat) Pst) = .error c := z
              show (match pLine st x with | .error c => .error (k, c) | .ok s1 => pLines (k + 1) s1 (xs ++ [[]]) : Except (Nat × Nat) Pst) = .error c
              cases e : pLine st x with
              | error c' => rw [e] at z; exact z
              | ok s1 => rw [e] at z; exact ih2 _ _ _ z
          rw [go _ _ _ _ e] at h
          cases h
        | ok s1 =>
          rw [pLines_app e] at h
          have := pLines_one (k := k + ls'.length) (read_blank s1 0)
          have h2 : (.ok s1 : Except (Nat × Nat) Pst) = .ok st' := by rw [← h]; exact this.symm
          cases h2
          exact ih (by omega) h' e
      · obtain ⟨m, c, e⟩ : ∃ m c, l = m ++ [c] := by
          rcases List.eq_nil_or_concat l with z | ⟨m, c, z⟩
          · exact absurd z hn
          · exact ⟨m, c, by rw [z, List.concat_eq_append]⟩
        have hc : c ≠ 10 := fun z => hl10 (by rw [e, z]; simp)
        have e2 : stripT (joinN ls' ++ l) = joinN ls' ++ l := by
          rw [e, ← List.append_assoc]
          exact strip_no hc
        rw [e2, lns_open h' hl10 hn]
        exact h
/-! no line end within a line -/
theorem no10_sp (g : Nat) : 10 ∉ sp g := fun h => by
  have := List.eq_of_mem_replicate h
  cases this
theorem no10_digs (n : Nat) : 10 ∉ digs n := fun h => by
  have := digs_d n 10 h
  revert this
  decide
theorem no10_int (z : Int) : 10 ∉ intT z := by
  unfold intT
  split
  · intro h
    rcases List.mem_cons.mp h with h | h
    · cases h
    · exact no10_digs _ h
  · exact no10_digs _
theorem Nm.no10 {n : List Nat} (h : Nm n) : 10 ∉ n := fun hm => by
  have := h.all 10 hm
  revert this
  decide
theorem Kn.no10 {env : Env'} {o : LOp} {d : Opd} (h : Kn env o d) : 10 ∉ shO o := by
  cases o with
  | nm n => exact h.1.no10
  | nu z => exact no10_int z
theorem ValB.no10 {env : Env'} {v : List Nat} {x : List Nat × Opd × Oth} (h : ValB env v x) : 10 ∉ v := by
  cases h with
  | plain k => exact k.no10
  | ari k p hc => rcases hc with rfl | rfl | rfl <;> simp [k.no10, p.no10, no10_sp]
  | shift k hc _ => rcases hc with rfl | rfl <;> simp [k.no10, no10_sp, no10_digs]
  | rest k _ => simp [k.no10, no10_sp, no10_digs]
  | cell h _ k => simp [h.no10, k.no10]
theorem no10_nums : ∀ zs : List Int, 10 ∉ numsT zs
  | [] => by intro h; cases h
  | z :: zs => by
    show 10 ∉ 32 :: (intT z ++ numsT zs)
    have := no10_nums zs
    simp [no10_int, this]
theorem no10_table {n : List Nat} {zs : List Int} (h : Nm n) : 10 ∉ tableT n zs := by
  unfold tableT
  have := no10_nums zs
  simp [h.no10, this, tableW]

end Vf

set_option maxRecDepth 100000
set_option maxHeartbeats 8000000
namespace Vf
open PySem PySem.Spec PyProof.Rows L2
/-! ### the law's own defs -/
def loV : LOp → V
  | .nm n => .str (Tx n)
  | .nu z => .int z
def InOp (ns : List (List Nat)) : LOp → Prop
  | .nm n => n ∈ ns
  | .nu z => z.natAbs < 2 ^ 97
def spOper : Sp := fun vs H Q _ => ∃ (p lc nl : Addr) (B : Int) (ns : List (List Nat)), vs = [.ref p, .ref nl] ∧ Pen H p lc B ∧ B ≤ 1000000 ∧ nl ≠ p ∧ H nl = some (.lst (ns.map fun n => V.str (Tx n))) ∧ ns.length ≤ 100 ∧
  ∀ (o : LOp) (H' : Hp), InOp ns o → Kp p H H' → Pen H' p lc (B + 4) → Q (loV o) H'
theorem strs_dt {K : PySem.W.Frag} {H : Hp} : ∀ ns : List (List Nat), Dts K H (ns.map fun n => V.str (Tx n)) (ns.map fun n => PyData.str (Tx n))
  | [] => .nil
  | n :: ns => .cons (.str _) (strs_dt ns)
theorem strs_plain : ∀ ns : List (List Nat), PyData.plainAll (ns.map fun n => PyData.str (Tx n)) = true
  | [] => rfl
  | n :: ns => by
    have := strs_plain ns
    simp only [List.map_cons, PyData.plainAll, PyData.plain, Bool.true_and]
    exact this
theorem strs_depth : ∀ ns : List (List Nat), PyData.depthAll (ns.map fun n => PyData.str (Tx n)) = 0
  | [] => rfl
  | n :: ns => by
    have := strs_depth ns
    simp only [List.map_cons, PyData.depthAll, PyData.depth, this]
    rfl
section
variable {P : Program} {w : World} {K : PySem.W.Frag} {mg : Str → Option Value} {base : Heap} {CT CA CL CN NO CP CW : Addr}
abbrev sOper : Stmt := topS 41
theorem scOper : FnScope ["_law_pen_here", "_law_names"] ["_law_pen_here", "_law_names"] (defScope sOper) := ⟨rfl, rfl, rfl, by decide +kernel, rfl, by decide +kernel, by decide +kernel⟩
theorem ok_oper {f : Addr} {fd : FuncData} (F : Fun K "_law_operand" "_law_operand" sOper f fd) (T : Bk mg) (hm1 : M1 base) (G__law_draw : Df P w K mg base "_law_draw" 1 ["_law_pen_here", "_law_many"] spDraw) (G__law_pick : Df P w K mg base "_law_pick" 2 ["_law_pen_here", "_law_some"] spPick) : FnOk P w K mg base CX0 3 f fd ["_law_pen_here", "_law_names"] spOper := by
  refine F.ok scOper (fun vs H Q E h => ?_) (fun cdv A outer s H vs Q E hr h => ?_)
  · obtain ⟨p, lc, nl, B, ns, rfl, _⟩ := h
    rfl
  · obtain ⟨p, lc, nl, B, ns, rfl, hP, hB, hne, hN, hl, q⟩ := h
    refine ⟨_, (pss_cons (ps_if (PW.pt (pw_and (pt_cmpR (op_neT hr.units hm1) (pv 1) (pe_lst pa_nil) (nomark _)) (pw_and1 (pt_cmpR op_gt (pe_call G__law_draw.ok (hr.mono (by decide)) rfl G__law_draw.m G__law_draw.kp G__law_draw.b .nil pass0 (pa_cons (pv 0) (pa_cons pe_int pa_nil))) pe_int (nomark _)))))
    (pss_one (ps_ret (pe_call G__law_pick.ok (hr.mono (by decide)) rfl G__law_pick.m G__law_pick.kp G__law_pick.b .nil pass0 (pa_cons (pv 0) (pa_cons (pv 1) pa_nil)))))
    pss_nil)
  (pss_one (ps_ret (pe_call G__law_pick.ok (hr.mono (by decide)) rfl G__law_pick.m G__law_pick.kp G__law_pick.b .nil pass0 (pa_cons (pv 0) (pa_cons (pe_lst (pa_cons pe_int (pa_cons pe_int (pa_cons pe_int (pa_cons pe_int (pa_cons (pe_un un_neg pe_int) (pa_cons pe_int (pa_cons pe_int (pa_cons pe_int (pa_cons (pe_un un_neg pe_int) (pa_cons (pe_call G__law_draw.ok (hr.mono (by decide)) rfl G__law_draw.m G__law_draw.kp G__law_draw.b .nil pass0 (pa_cons (pv 0) (pa_cons pe_int pa_nil))) (pa_cons (pe_op op_add (pe_op op_pow pe_int pe_int) pe_int) pa_nil)))))))))))) pa_nil)))))), ?_⟩
    -- a number
    have nums : ∀ (H1 : Hp) (B1 : Int), Kp p H H1 → Pen H1 p lc B1 → B1 ≤ B + 1 → ∀ (z : Int) (H2 : Hp), 0 ≤ z → z < 1000 → Pen H2 p lc (B1 + 1) → Kp p H1 H2 → ∀ (D : Addr), H2 D = none → ∀ (y : V) (H3 : Hp), y ∈ [V.int 0, .int 1, .int 2, .int 3, .int (-1), .int 5, .int 7, .int 85, .int (-13), .int z, .int (10 ^ (9 : Int).toNat + 7)] → Pen H3 p lc (B1 + 1 + 1) → Kp p (upd H2 D (.lst [V.int 0, .int 1, .int 2, .int 3, .int (-1), .int 5, .int 7, .int 85, .int (-13), .int z, .int (10 ^ (9 : Int).toNat + 7)])) H3 → Q y H3 := fun H1 B1 k1 p1 b1 z H2 z0 z1 p2 k2 D nD y H3 hy p3 k3 => by
      have kD : Kp p H2 (upd H2 D (.lst [V.int 0, .int 1, .int 2, .int 3, .int (-1), .int 5, .int 7, .int 85, .int (-13), .int z, .int (10 ^ (9 : Int).toNat + 7)])) := Kp.of (same_upd nD)
      have fin : ∀ n : Int, n.natAbs < 2 ^ 97 → Q (.int n) H3 := fun n hn => q (.nu n) H3 hn (((k1.trans k2).trans kD).trans k3) (p3.more (by omega))
      simp only [List.mem_cons, List.not_mem_nil, or_false] at hy
      rcases hy with rfl | rfl | rfl | rfl | rfl | rfl | rfl | rfl | rfl | rfl | rfl
      all_goals first
        | exact fin _ (by decide)
        | exact fin _ (by omega)
    have e1 : SqL K H nl (ns.map fun n => V.str (Tx n)) := SqL.of hN
    refine ⟨_, rfl, (by show 0 ≤ sizeLine; decide), fun D nD => ?_⟩
    have s1 := same_upd (o := HO.lst []) nD
    have eD : upd H D (HO.lst []) D = some (HO.lst []) := upd_same
    generalize upd H D (HO.lst []) = H1 at s1 eD ⊢
    refine ⟨.list (ns.map fun n => .str (Tx n)), .list [], .lst (SqL.of (s1 _ _ hN)) (strs_dt ns), .lst (SqL.of eD) .nil, ?_, rfl, ?_, ?_⟩
    · simp only [PyData.plain]
      exact strs_plain ns
    · simp only [PyData.depth, strs_depth]
      omega
    have pH1 := hP.same s1
    cases ns with
    | nil =>
      refine ⟨_, rfl, ?_⟩
      refine iteF ?_
      refine iteF ?_
      refine ⟨_, rfl, _, rfl, _, rfl, _, rfl, p, lc, B, 1000, rfl, pH1, by omega, by decide, by decide, fun z H3 z0 z1 p2 k2 => ?_⟩
      refine ⟨_, _, rfl, rfl, (by unfold CPow; decide +kernel), _, _, rfl, rfl, (by show 11 ≤ sizeLine; decide), fun D2 nD2 => ?_⟩
      have pD : Pen (upd H3 D2 (HO.lst [V.int 0, .int 1, .int 2, .int 3, .int (-1), .int 5, .int 7, .int 85, .int (-13), .int z, .int (10 ^ (9 : Int).toNat + 7)])) p lc (B + 1) := p2.same (same_upd nD2)
      have pn : D2 ≠ p := fun e => by
        obtain ⟨o, h⟩ := p2.there
        rw [e, h] at nD2
        cases nD2
      exact ⟨p, lc, D2, B + 1, _, rfl, pD, by omega, upd_same, pn, (by show 0 < 11; decide), (by show 11 < 1000000; decide), fun y H4 hy p3 k3 => nums H1 B (Kp.of s1) pH1 (by omega) z H3 z0 z1 p2 k2 D2 nD2 y H4 hy p3 k3⟩
    | cons n ns =>
      refine ⟨_, rfl, ?_⟩
      refine iteT ?_
      refine ⟨_, rfl, p, lc, B, 4, rfl, pH1, by omega, by decide, by decide, fun y H2 y0 y1 p2 k2 => ?_⟩
      refine ⟨_, _, rfl, rfl, _, rfl, ?_⟩
      have k12 := (Kp.of s1).trans k2
      have pq2 := p2
      by_cases h0 : y > 0
      · rw [decide_eq_true h0]
        refine iteT ?_
        refine ⟨_, rfl, _, rfl, p, lc, nl, B + 1, _, rfl, p2, by omega, k12 _ _ hne hN, hne, (by rw [List.length_map]; exact Nat.succ_pos _), (by rw [List.length_map]; omega), fun v H3 hv p3 k3 => ?_⟩
        obtain ⟨m, hm, rfl⟩ := List.mem_map.mp hv
        exact q (.nm m) H3 hm (k12.trans k3) (p3.more (by omega))
      · rw [decide_eq_false h0]
        refine iteF ?_
        refine ⟨_, rfl, _, rfl, _, rfl, _, rfl, p, lc, (B + 1), 1000, rfl, pq2, by omega, by decide, by decide, fun z H3 z0 z1 p2 k2 => ?_⟩
        refine ⟨_, _, rfl, rfl, (by unfold CPow; decide +kernel), _, _, rfl, rfl, (by show 11 ≤ sizeLine; decide), fun D2 nD2 => ?_⟩
        have pD : Pen (upd H3 D2 (HO.lst [V.int 0, .int 1, .int 2, .int 3, .int (-1), .int 5, .int 7, .int 85, .int (-13), .int z, .int (10 ^ (9 : Int).toNat + 7)])) p lc ((B + 1) + 1) := p2.same (same_upd nD2)
        have pn : D2 ≠ p := fun e => by
          obtain ⟨o, h⟩ := p2.there
          rw [e, h] at nD2
          cases nD2
        exact ⟨p, lc, D2, (B + 1) + 1, _, rfl, pD, by omega, upd_same, pn, (by show 0 < 11; decide), (by show 11 < 1000000; decide), fun y H4 hy p3 k3 => nums H2 (B + 1) k12 pq2 (by omega) z H3 z0 z1 p2 k2 D2 nD2 y H4 hy p3 k3⟩
end

end Vf

set_option maxRecDepth 100000
set_option maxHeartbeats 8000000
namespace Vf
open PySem PySem.Spec PyProof.Rows L2
/-! ### the text of a value -/
theorem tx_int (z : Int) : Str.ofString (toString z) = Tx (intT z) := by
  cases z with
  | ofNat n =>
    show Str.ofString (toString ((n : Nat) : Int)) = Tx (if ((n : Nat) : Int) < 0 then _ else digs ((n : Nat) : Int).natAbs)
    rw [if_neg (by omega)]
    exact digs_tx n
  | negSucc n =>
    have h := signs_ofString (toString (Int.negSucc n))
    obtain ⟨l, e⟩ := tx_of (Str.ofString (toString (Int.negSucc n)))
    rw [e] at h ⊢
    rw [tx_cps, show toString (Int.negSucc n) = "-" ++ Nat.repr (n + 1) from rfl, String.toList_append, List.map_append, Nat.toList_repr] at h
    rw [h]
    unfold intT
    rw [if_pos (by omega)]
    rfl
def LoSz : LOp → Prop
  | .nm n => n.length ≤ 8
  | .nu z => z.natAbs < 2 ^ 97
theorem sho_len {o : LOp} (h : LoSz o) : (shO o).length ≤ 32 := by
  cases o with
  | nm n =>
    have h : n.length ≤ 8 := h
    show n.length ≤ 32
    omega
  | nu z =>
    have h : z.natAbs < 2 ^ 97 := h
    have := digs_len (n := z.natAbs) (k := 30) (by decide) (lt30 h)
    show (intT z).length ≤ 32
    unfold intT
    split
    · rw [List.length_cons]; omega
    · omega
theorem call_str_lo {X : Cx} : CallR X (.type "str") (fun xs H Q => ∃ o : LOp, xs = [loV o] ∧ LoSz o ∧ Q (.str (Tx (shO o))) H) := by
  intro pins s σ H xs us Q I r h
  obtain ⟨o, rfl, hz, q⟩ := h
  cases o with
  | nm n => exact SkE.call_str_str pins s σ H _ us Q I r ⟨_, rfl, q⟩
  | nu z =>
    refine call_str_int pins s σ H _ us Q I r ⟨z, rfl, ?_, ?_⟩
    · have hz : z.natAbs < 2 ^ 97 := hz
      by_cases h0 : z.natAbs = 0
      · rw [h0]; decide
      · have := (Nat.log2_lt h0).mpr hz
        omega
    · rw [show (Str.ofString (toString z)) = Tx (intT z) from tx_int z]
      exact q
def LsAt (H : Hp) (r : Addr) (s : LS) : Prop := H r = some (.tup [.str (Tx s.name), .str (Tx s.sign), loV s.one, loV s.oth])
structure LsSz (s : LS) : Prop where
  sg : s.sign.length ≤ 2
  one : LoSz s.one
  oth : LoSz s.oth
def spVT : Sp := fun vs H Q _ => ∃ (r : Addr) (s : LS), vs = [.ref r] ∧ LsAt H r s ∧ LsSz s ∧ ∀ H', Same H H' → Q (.str (Tx (valT 1 s))) H'
theorem tx_cat (a b : List Nat) {n : Nat} (h : a.length + b.length ≤ 1000) : (Tx a).length + (Tx b).length ≤ sizeLine := by rw [tx_len, tx_len, sizeLine_eq]; omega
theorem lit_gt : (">" : Str) = Tx [62] := by decide +kernel
theorem lit_lt : ("<" : Str) = Tx [60] := by decide +kernel
section
variable {P : Program} {w : World} {K : PySem.W.Frag} {mg : Str → Option Value} {base : Heap} {CT CA CL CN NO CP CW : Addr}
abbrev sVT : Stmt := topS 43
theorem scVT : FnScope ["_law_step", "_law_name", "_law_sign", "_law_one", "_law_other"] ["_law_step"] (defScope sVT) := ⟨rfl, rfl, rfl, by decide +kernel, rfl, by decide +kernel, by decide +kernel⟩
theorem ok_vt {f : Addr} {fd : FuncData} (F : Fun K "_law_value_text" "_law_value_text" sVT f fd) (T : Bk mg) : FnOk P w K mg base CX0 1 f fd ["_law_step"] spVT := by
  refine F.ok scVT (fun vs H Q E h => ?_) (fun cdv A outer s H vs Q E hr h => ?_)
  · obtain ⟨r, s, rfl, _⟩ := h
    rfl
  · obtain ⟨r, st, rfl, er, sz, q⟩ := h
    refine ⟨_, (pss_cons (ps_asg (pv 0) (pg_tup (by rfl) (pgs_cons (pg_name (i := 1) scVT.nd rfl (Or.inl rfl)) (pgs_cons (pg_name (i := 2) scVT.nd rfl (Or.inl rfl)) (pgs_cons (pg_name (i := 3) scVT.nd rfl (Or.inl rfl)) (pgs_cons (pg_name (i := 4) scVT.nd rfl (Or.inl rfl)) pgs_nil))))))
  (pss_cons (ps_if (pt_cmpR op_eq (pv 2) pe_str (nomark _))
    (pss_one (ps_ret (pe_callTy call_str_lo (by rfl) T.str (by decide +kernel) (pa_cons (pv 3) pa_nil))))
    pss_nil)
  (pss_cons (ps_if (pt_cmpR op_eq (pv 2) pe_str (nomark _))
    (pss_one (ps_ret (pe_op op_add_str (pe_op op_add_str (pe_op op_add_str (pe_callTy call_str_lo (by rfl) T.str (by decide +kernel) (pa_cons (pv 3) pa_nil)) pe_str) (pe_callTy call_str_lo (by rfl) T.str (by decide +kernel) (pa_cons (pv 4) pa_nil))) pe_str)))
    pss_nil)
  (pss_one (ps_ret (pe_op op_add_str (pe_op op_add_str (pe_op op_add_str (pe_op op_add_str (pe_callTy call_str_lo (by rfl) T.str (by decide +kernel) (pa_cons (pv 3) pa_nil)) pe_str) (pe_dget2 (hu1 hr.units) (pe_disp (pps_cons pe_str pe_str (pps_cons pe_str pe_str pps_nil)) (by rfl) (by rfl) (fun z => by cases z) (by decide)) (pv 2) (pv 2) ⟨by rfl, by rfl, by rfl, by rfl⟩)) pe_str) (pe_callTy call_str_lo (by rfl) T.str (by decide +kernel) (pa_cons (pv 4) pa_nil)))))))), ?_⟩
    have er : H r = some (.tup [.str (Tx st.name), .str (Tx st.sign), loV st.one, loV st.oth]) := er
    have l1 := sho_len sz.one
    have l2 := sho_len sz.oth
    refine ⟨_, rfl, r, _, rfl, SqT.of er, rfl, _, _, rfl, _, _, rfl, _, _, rfl, _, _, rfl, rfl, ?_⟩
    refine ⟨_, rfl, rfl, _, rfl, ?_⟩
    rw [lit_empty, tx_eq]
    unfold valT at q
    by_cases h0 : st.sign = []
    · rw [if_pos h0] at q
      rw [decide_eq_true h0]
      refine iteT ?_
      exact ⟨_, rfl, st.one, rfl, sz.one, q H (Same.refl H)⟩
    · rw [if_neg h0] at q
      rw [decide_eq_false h0]
      refine iteF ?_
      refine ⟨_, rfl, rfl, _, rfl, ?_⟩
      rw [lit_open, tx_eq]
      by_cases h1 : st.sign = [91]
      · rw [if_pos h1] at q
        rw [decide_eq_true h1]
        refine iteT ?_
        refine ⟨_, rfl, st.one, rfl, sz.one, ?_⟩
        have e1 : Tx (shO st.one) ++ Tx [91] = Tx (shO st.one ++ [91]) := tx_app ..
        have e2 : Tx (shO st.one ++ [91]) ++ Tx (shO st.oth) = Tx (shO st.one ++ [91] ++ shO st.oth) := tx_app ..
        have e3 : Tx (shO st.one ++ [91] ++ shO st.oth) ++ ("]" : Str) = Tx (shO st.one ++ (91 :: (shO st.oth ++ [93]))) := by rw [lit_close, tx_app]; congr 1; simp
        refine ⟨_, _, rfl, rfl, tx_cat (n := 0) _ _ (by show _ + 1 ≤ _; omega), _, rfl, st.oth, rfl, sz.oth, ?_⟩
        rw [e1]
        refine ⟨_, _, rfl, rfl, tx_cat (n := 0) _ _ (by rw [List.length_append]; show _ + 1 + _ ≤ _; omega), ?_⟩
        rw [e2]
        refine ⟨_, _, rfl, rfl, (by rw [lit_close]; exact tx_cat (n := 0) _ _ (by rw [List.length_append, List.length_append]; show _ + 1 + _ + 1 ≤ _; omega)), ?_⟩
        rw [e3]
        exact q H (Same.refl H)
      · rw [if_neg h1] at q
        rw [decide_eq_false h1]
        refine iteF ?_
        have e1 : Tx (shO st.one) ++ (" " : Str) = Tx (shO st.one ++ [32]) := by rw [lit_sp, tx_app]
        refine ⟨_, rfl, st.one, rfl, sz.one, ?_⟩
        refine ⟨_, _, rfl, rfl, (by rw [lit_sp]; exact tx_cat (n := 0) _ _ (by show _ + 1 ≤ _; omega)), ?_⟩
        rw [e1]
        refine fun d nd => ⟨upd_same, [(.inr (">" : Str), .str ">>"), (.inr "<", .str "<<")], rfl, (by show 2 ≤ 15; decide), ?_⟩
        have em : mergeK [] [((.inr (">" : Str) : Key), V.str ">>"), (.inr "<", V.str "<<")] = [(.inr (Tx [62]), V.str (Tx [62, 62])), (.inr (Tx [60]), V.str (Tx [60, 60]))] := by
          rw [lit_gt, lit_lt, lit_shl, lit_shr]
          decide +kernel
        rw [em]
        have ed : upd (upd H d (HO.dK [])) d (HO.dK [((.inr (Tx [62]) : Key), V.str (Tx [62, 62])), (.inr (Tx [60]), V.str (Tx [60, 60]))]) d = some (HO.dK [((.inr (Tx [62]) : Key), V.str (Tx [62, 62])), (.inr (Tx [60]), V.str (Tx [60, 60]))]) := upd_same
        have s2 : Same H (upd (upd H d (HO.dK [])) d (HO.dK [((.inr (Tx [62]) : Key), V.str (Tx [62, 62])), (.inr (Tx [60]), V.str (Tx [60, 60]))])) := fun b o e => by
          rw [upd_ne (ne_of_none e nd), upd_ne (ne_of_none e nd)]
          exact e
        generalize upd (upd H d (HO.dK [])) d (HO.dK [((.inr (Tx [62]) : Key), V.str (Tx [62, 62])), (.inr (Tx [60]), V.str (Tx [60, 60]))]) = H2 at ed s2 ⊢
        have gv : ((valV [((.inr (Tx [62]) : Key), V.str (Tx [62, 62])), (.inr (Tx [60]), V.str (Tx [60, 60]))] (.inr (Tx st.sign))).getD (.str (Tx st.sign))) = .str (Tx (opX st.sign)) := by
          unfold opX
          by_cases h2 : st.sign = [62]
          · rw [if_pos h2, h2]
            decide +kernel
          · rw [if_neg h2]
            by_cases h3 : st.sign = [60]
            · rw [if_pos h3, h3]
              decide +kernel
            · rw [if_neg h3, valV_neg (fun z => h2 (tx_inj (Sum.inr.inj z)).symm), valV_neg (fun z => h3 (tx_inj (Sum.inr.inj z)).symm), valV_nil]
              rfl
        refine ⟨d, rfl, .inl ⟨_, .inl ed⟩, _, rfl, _, rfl, _, DGet.k (k := .inr (Tx st.sign)) ed, ?_⟩
        rw [gv]
        have lo : (opX st.sign).length ≤ 2 := by
          unfold opX
          split
          · decide
          · split
            · decide
            · exact sz.sg
        have e2 : Tx (shO st.one ++ [32]) ++ Tx (opX st.sign) = Tx (shO st.one ++ [32] ++ opX st.sign) := tx_app ..
        have e3 : Tx (shO st.one ++ [32] ++ opX st.sign) ++ (" " : Str) = Tx (shO st.one ++ [32] ++ opX st.sign ++ [32]) := by rw [lit_sp, tx_app]
        have e4 : Tx (shO st.one ++ [32] ++ opX st.sign ++ [32]) ++ Tx (shO st.oth) = Tx (shO st.one ++ (sp 1 ++ (opX st.sign ++ (sp 1 ++ shO st.oth)))) := by rw [tx_app]; congr 1; simp [sp]
        refine ⟨_, _, rfl, rfl, tx_cat (n := 0) _ _ (by rw [List.length_append]; show _ + 1 + _ ≤ _; omega), ?_⟩
        rw [e2]
        refine ⟨_, _, rfl, rfl, (by rw [lit_sp]; exact tx_cat (n := 0) _ _ (by rw [List.length_append, List.length_append]; show _ + 1 + _ + 1 ≤ _; omega)), _, rfl, st.oth, rfl, sz.oth, ?_⟩
        rw [e3]
        refine ⟨_, _, rfl, rfl, tx_cat (n := 0) _ _ (by rw [List.length_append, List.length_append, List.length_append]; show _ + 1 + _ + 1 + _ ≤ _; omega), ?_⟩
        rw [e4]
        exact q H2 s2
end

end Vf

set_option maxRecDepth 100000
set_option maxHeartbeats 8000000
namespace Vf
open PySem PySem.Spec PyProof.Rows L2
/-! ### joined, stripped, split -/
theorem join_tx : ∀ (xs : List (List Nat)), Txt.join ("" : Str) (xs.map Tx) = Tx xs.flatten := by
  intro xs
  rw [TL.join_eq]
  induction xs with
  | nil => exact lit_empty
  | cons x xs ih =>
    cases xs with
    | nil =>
      show Tx x = Tx (x ++ [])
      rw [List.append_nil]
    | cons y ys =>
      show Tx x ++ ("" : Str) ++ Str.join ("" : Str) ((y :: ys).map Tx) = Tx (x ++ (y :: ys).flatten)
      rw [ih, lit_empty, tx_app, tx_app, List.append_nil]
theorem goes_nl (c : Nat) : ("\n" : Str).cps.contains c = (c == 10) := by
  rw [lit_nl]
  show (#[10] : Array Nat).contains c = (c == 10)
  simp
  by_cases h : c = 10 <;> simp [h]
theorem take_len {p : Nat → Bool} : ∀ l : List Nat, l.dropWhile p = l.drop (l.takeWhile p).length
  | [] => rfl
  | c :: l => by
    by_cases h : p c = true
    · rw [List.dropWhile_cons_of_pos h, List.takeWhile_cons_of_pos h, take_len l]
      rfl
    · rw [List.dropWhile_cons_of_neg h, List.takeWhile_cons_of_neg h]
      rfl
theorem rstrip_tx (t : List Nat) : Txt.rstripChars (Tx t) ("\n" : Str) = Tx (stripT t) := by
  have hg : ("\n" : Str).cps.contains = fun c => c == 10 := funext goes_nl
  unfold Txt.rstripChars Txt.stripBy
  rw [hg]
  have e : stripT t = t.take (t.length - (t.reverse.takeWhile (fun c => c == 10)).length) := by
    unfold stripT
    rw [take_len, List.drop_reverse, List.reverse_reverse]
  have lo : stripLo (fun c => c == 10) false (Tx t) = 0 := rfl
  have hi : stripHi (fun c => c == 10) true (Tx t) 0 = t.length - (t.reverse.takeWhile (fun c => c == 10)).length := by
    unfold stripHi
    rw [if_pos rfl, tx_len, tx_cps]
    rfl
  have kl : (t.reverse.takeWhile (fun c => c == 10)).length ≤ t.length := by
    have := (List.takeWhile_sublist (fun c => c == 10) (l := t.reverse)).length_le
    rw [List.length_reverse] at this
    exact this
  unfold stripSame stripped
  rw [lo, hi, tx_len]
  by_cases h : t.length - (t.reverse.takeWhile (fun c => c == 10)).length = t.length
  · rw [h, if_pos (by simp), e, h, List.take_length]
  · rw [if_neg (by simp; omega), e]
    show Str.mk _ = Str.mk _
    congr 1
    unfold Tx
    simp [List.extract]
theorem split_nl (t : List Nat) : Txt.split (Tx t) ("\n" : Str) = (spn [] t).map Tx := by
  rw [lit_nl]
  show Txt.split (SX.S t) (SX.S [10]) = _
  rw [SX.split_S (by decide) (by decide), spn_spl]
  rfl
theorem join_sum (xs : List (List Nat)) : (((xs.map Tx).map (·.length)).sum + (xs.map Tx).length * ("" : Str).length) = xs.flatten.length := by
  have e0 : ("" : Str).length = 0 := by rw [lit_empty]; rfl
  rw [e0, Nat.mul_zero, Nat.add_zero]
  induction xs with
  | nil => rfl
  | cons x xs ih =>
    rw [List.map_cons, List.map_cons, List.sum_cons, ih, List.flatten_cons, List.length_append, tx_len]
theorem joinN_flat : ∀ ls : List (List Nat), (ls.map (· ++ [10])).flatten = joinN ls
  | [] => rfl
  | l :: ls => by
    rw [List.map_cons, List.flatten_cons, joinN_flat ls]
    show (l ++ [10]) ++ joinN ls = l ++ (10 :: joinN ls)
    simp
theorem joinN_app : ∀ (a b : List (List Nat)), joinN (a ++ b) = joinN a ++ joinN b
  | [], b => rfl
  | l :: a, b => by
    show l ++ (10 :: joinN (a ++ b)) = (l ++ (10 :: joinN a)) ++ joinN b
    rw [joinN_app a b]
    simp
theorem nums_flat : ∀ zs : List Int, (zs.map fun z => 32 :: intT z).flatten = numsT zs
  | [] => rfl
  | z :: zs => by
    rw [List.map_cons, List.flatten_cons, nums_flat zs]
    rfl
theorem numsT_len : ∀ {zs : List Int}, (∀ z ∈ zs, z.natAbs < 2 ^ 97) → (numsT zs).length ≤ 33 * zs.length
  | [], _ => Nat.le_refl _
  | z :: zs, h => by
    have h1 := numsT_len (zs := zs) fun y hy => h y (List.mem_cons_of_mem _ hy)
    have h2 : (shO (.nu z)).length ≤ 32 := sho_len (o := .nu z) (h z List.mem_cons_self)
    have h2 : (intT z).length ≤ 32 := h2
    show (32 :: (intT z ++ numsT zs)).length ≤ 33 * (zs.length + 1)
    rw [List.length_cons, List.length_append]
    omega
theorem TnOk.nm {tn : Tn'} (h : TnOk tn) : ∀ p ∈ tn, Nm p.1 := by
  induction h with
  | nil => intro p hp; cases hp
  | snoc _ h1 _ _ _ _ _ ih =>
    intro p hp
    rcases List.mem_append.mp hp with hp | hp
    · exact ih p hp
    · rw [List.mem_singleton.mp hp]
      exact h1
theorem TnOk.uniq {tn : Tn'} (h : TnOk tn) : ∀ {i : Nat} {n : List Nat} {zs : List Int}, tn[i]? = some (n, zs) → pos tn n = i := by
  induction h with
  | nil => intro i n zs h; cases h
  | @snoc tn n0 zs0 _ _ _ _ nd _ _ ih =>
    intro i n zs h
    by_cases hi : i < tn.length
    · rw [List.getElem?_append_left hi] at h
      rw [pos_app (List.mem_map.mpr ⟨_, List.mem_of_getElem? h, rfl⟩)]
      exact ih h
    · have hl := (List.getElem?_eq_some_iff.mp h).1
      rw [List.length_append, List.length_singleton] at hl
      have e : i = tn.length := by omega
      subst e
      rw [List.getElem?_append_right (Nat.le_refl _), Nat.sub_self] at h
      cases h
      exact pos_end nd
theorem tabs_len {tn : Tn'} (h : TnOk tn) (h9 : ∀ p ∈ tn, p.2.length ≤ 9) : (joinN (tn.map fun p => tableT p.1 p.2)).length ≤ 320 * tn.length := by
  have nm := h.nm
  have fi := h.fine
  clear h
  induction tn with
  | nil => exact Nat.le_refl _
  | cons p tn ih =>
    have h1 := ih (fun q hq => h9 q (List.mem_cons_of_mem _ hq)) (fun q hq => nm q (List.mem_cons_of_mem _ hq)) (fun q hq => fi q (List.mem_cons_of_mem _ hq))
    have h2 := numsT_len (fi p List.mem_cons_self)
    have h3 := h9 p List.mem_cons_self
    have h4 := (nm p List.mem_cons_self).len
    show (tableT p.1 p.2 ++ (10 :: joinN (tn.map fun p => tableT p.1 p.2))).length ≤ 320 * (tn.length + 1)
    have h5 : (tableT p.1 p.2).length = 6 + p.1.length + (numsT p.2).length := by
      unfold tableT
      have h5 : tableW.length = 5 := rfl
      simp only [List.length_append, List.length_cons, h5]
      omega
    rw [List.length_append, List.length_cons, h5]
    omega
theorem table_len {n : List Nat} {zs : List Int} (h1 : Nm n) (h2 : ∀ z ∈ zs, z.natAbs < 2 ^ 97) (h3 : zs.length ≤ 9) : (tableT n zs).length ≤ 311 ∧ (numsT zs).length ≤ 297 := by
  have h4 := numsT_len h2
  have h5 : tableW.length = 5 := rfl
  have h6 := h1.len
  unfold tableT
  simp only [List.length_append, List.length_cons, h5]
  omega
theorem lit_tablesp : ("table " : Str) = Tx (tableW ++ [32]) := by decide +kernel

end Vf

set_option maxRecDepth 100000
set_option maxHeartbeats 8000000
namespace Vf
open PySem PySem.Spec PyProof.Rows L2
/-! ### spaces taken out of the text of a value -/
theorem no32_digs (n : Nat) : ∀ c ∈ digs n, (c != 32) = true := fun c h => by
  have := digs_d n c h
  cases e : c != 32 with
  | true => rfl
  | false =>
    have z : c = 32 := by simpa using e
    rw [z] at this
    revert this
    decide
theorem no32_int (z : Int) : (intT z).filter (· != 32) = intT z := by
  rw [List.filter_eq_self]
  intro c hc
  unfold intT at hc
  split at hc
  · rcases List.mem_cons.mp hc with h | h
    · rw [h]; decide
    · exact no32_digs _ c h
  · exact no32_digs _ c hc
theorem no32_nm {n : List Nat} (h : Nm n) : n.filter (· != 32) = n := by
  rw [List.filter_eq_self]
  intro c hc
  have := h.all c hc
  cases e : c != 32 with
  | true => rfl
  | false =>
    have z : c = 32 := by simpa using e
    rw [z] at this
    revert this
    decide
def NmO : LOp → Prop
  | .nm n => Nm n
  | .nu _ => True
theorem no32_sho {o : LOp} (h : NmO o) : (shO o).filter (· != 32) = shO o := by
  cases o with
  | nm n => exact no32_nm h
  | nu z => exact no32_int z
theorem strike_valT {s : LS} (h1 : NmO s.one) (h2 : NmO s.oth) (hs : (opX s.sign).filter (· != 32) = opX s.sign) : Txt.replace (Tx (valT 1 s)) (" " : Str) ("" : Str) = Tx (valT 0 s) := by
  have e : (valT 1 s).filter (· != 32) = valT 0 s := by
    unfold valT
    split
    · exact no32_sho h1
    · split
      · rw [List.filter_append, no32_sho h1]
        show shO s.one ++ (91 :: (shO s.oth ++ [93]).filter (· != 32)) = _
        rw [List.filter_append, no32_sho h2]
        rfl
      · rw [List.filter_append, List.filter_append, List.filter_append, List.filter_append, no32_sho h1, no32_sho h2, hs]
        rfl
  obtain ⟨l, hl⟩ := tx_of (Txt.replace (Tx (valT 1 s)) (" " : Str) ("" : Str))
  have r := replace_strikes (Tx (valT 1 s)) 32
  rw [show (⟨#[32]⟩ : Str) = (" " : Str) by decide +kernel, show (⟨#[]⟩ : Str) = ("" : Str) by decide +kernel, hl, tx_cps, tx_cps, e] at r
  rw [hl, r]

end Vf

set_option maxRecDepth 100000
set_option maxHeartbeats 8000000
namespace Vf
open PySem PySem.Spec PyProof.Rows L2
/-! ### the law's own run: its dict of what is known -/
def kvK : Dn' → List Int → List (Key × V)
  | p :: dn, v :: fs => (.inr (Tx p.1), .int v) :: kvK dn fs
  | _, _ => []
theorem kvK_len : ∀ {dn : Dn'} {fs : List Int}, fs.length = dn.length → (kvK dn fs).length = dn.length
  | [], [], _ => rfl
  | p :: dn, v :: fs, h => by
    show (kvK dn fs).length + 1 = dn.length + 1
    rw [kvK_len (by simpa using h)]
theorem kvK_get {n : List Nat} : ∀ {dn : Dn'} {fs : List Int}, fs.length = dn.length → n ∈ dn.map (·.1) → ∃ v, fs[pos dn n]? = some v ∧ valV (kvK dn fs) (.inr (Tx n)) = some (.int v)
  | p :: dn, v :: fs, h, hn => by
    show ∃ y, (v :: fs)[if p.1 = n then 0 else pos dn n + 1]? = some y ∧ valV ((.inr (Tx p.1), .int v) :: kvK dn fs) (.inr (Tx n)) = some (.int y)
    by_cases hp : p.1 = n
    · rw [if_pos hp]
      exact ⟨v, rfl, valV_pos (by rw [hp])⟩
    · rw [if_neg hp, valV_neg (fun z => hp (tx_inj (Sum.inr.inj z)))]
      have h2 : n ∈ dn.map (·.1) := by
        rcases List.mem_cons.mp hn with z | z
        · exact absurd z.symm hp
        · exact z
      obtain ⟨y, e1, e2⟩ := kvK_get (fs := fs) (by simpa using h) h2
      exact ⟨y, e1, e2⟩
theorem kvK_no {n : List Nat} : ∀ {dn : Dn'} {fs : List Int}, n ∉ dn.map (·.1) → valV (kvK dn fs) (.inr (Tx n)) = none
  | [], _, _ => by
    unfold kvK
    exact valV_nil
  | p :: dn, [], _ => valV_nil
  | p :: dn, v :: fs, h => by
    show valV ((.inr (Tx p.1), .int v) :: kvK dn fs) (.inr (Tx n)) = none
    rw [valV_neg (fun z => h (by rw [← tx_inj (Sum.inr.inj z)]; exact List.mem_cons_self)), kvK_no fun z => h (List.mem_cons_of_mem _ z)]
theorem kvK_int {z : Int} : ∀ {dn : Dn'} {fs : List Int}, valV (kvK dn fs) (.inl z) = none
  | [], _ => by
    unfold kvK
    exact valV_nil
  | p :: dn, [] => valV_nil
  | p :: dn, v :: fs => by
    show valV ((.inr (Tx p.1), .int v) :: kvK dn fs) (.inl z) = none
    rw [valV_neg (show (Sum.inr (Tx p.1) : Key) ≠ Sum.inl z from fun y => by cases y), kvK_int]
theorem kvK_snoc {n : List Nat} {d : Nat} {v : Int} : ∀ {dn : Dn'} {fs : List Int}, fs.length = dn.length → kvK (dn ++ [(n, d)]) (fs ++ [v]) = kvK dn fs ++ [(.inr (Tx n), .int v)]
  | [], [], _ => rfl
  | p :: dn, y :: fs, h => by
    show (.inr (Tx p.1), .int y) :: kvK (dn ++ [(n, d)]) (fs ++ [v]) = ((.inr (Tx p.1), .int y) :: kvK dn fs) ++ [(.inr (Tx n), .int v)]
    rw [kvK_snoc (by simpa using h)]
    rfl
def loKey : LOp → Key
  | .nm n => .inr (Tx n)
  | .nu z => .inl z
theorem loKey_v (o : LOp) : kV (loKey o) = loV o := by cases o <;> rfl
def getV (dn : Dn') (fs : List Int) (o : LOp) : V := (valV (kvK dn fs) (loKey o)).getD (loV o)
theorem getV_ok {dn : Dn'} {fs : List Int} {o : LOp} {d : Nat} {m : Int} (h : fs.length = dn.length) (ok : OpOk dn o d) (e : oVal fs (opdOf dn o) = some m) : getV dn fs o = .int m := by
  unfold getV
  cases o with
  | nu z =>
    show (valV (kvK dn fs) (.inl z)).getD (.int z) = _
    rw [kvK_int]
    have e : (if z.natAbs < 2 ^ BigZ then some z else none) = some m := e
    split at e
    · cases e; rfl
    · cases e
  | nm n =>
    obtain ⟨v, e1, e2⟩ := kvK_get h ok.1
    show (valV (kvK dn fs) (.inr (Tx n))).getD (.str (Tx n)) = _
    rw [e2]
    have e : fs[pos dn n]? = some m := e
    rw [e1] at e
    cases e
    rfl
/-- the steps up to the i-th, and the i-th -/
theorem Wf.at {tn : Tn'} {ss : List LS} {dn : Dn'} (w : Wf tn ss dn) : ∀ {i : Nat} {s : LS}, ss[i]? = some s → ∃ dn' d e, Wf tn (ss.take i) dn' ∧ StepOk tn dn' s d ∧ d ≤ 4 ∧ NewOk tn dn' s.name ∧ Wf tn (ss.take (i + 1)) (dn' ++ [(s.name, d)]) ∧ dn = dn' ++ [(s.name, d)] ++ e := by
  induction w with
  | nil => intro i s h; cases h
  | @snoc ss dn s0 d0 w ok hd hn ih =>
    intro i s h
    by_cases hi : i < ss.length
    · rw [List.getElem?_append_left hi] at h
      obtain ⟨dn', d, e, a1, a2, a3, a4, a5, a6⟩ := ih h
      refine ⟨dn', d, e ++ [(s0.name, d0)], ?_, a2, a3, a4, ?_, by rw [a6, List.append_assoc]⟩
      · rw [List.take_append_of_le_length (by omega)]
        exact a1
      · rw [List.take_append_of_le_length (by omega)]
        exact a5
    · have hl := (List.getElem?_eq_some_iff.mp h).1
      rw [List.length_append, List.length_singleton] at hl
      have e : i = ss.length := by omega
      subst e
      rw [List.getElem?_append_right (Nat.le_refl _), Nat.sub_self] at h
      cases h
      refine ⟨dn, d0, [], ?_, ok, hd, hn, ?_, by rw [List.append_nil]⟩
      · rw [List.take_left' rfl]
        exact w
      · rw [show (ss ++ [s0]).take (ss.length + 1) = ss ++ [s0] from List.take_of_length_le (by rw [List.length_append]; exact Nat.le_refl _)]
        exact .snoc w ok hd hn
theorem runs_app2 {tabs : List (List Int)} {b : List Stp} : ∀ {a : List Stp} {fs : List Int}, runs tabs fs (a ++ b) = (match runs tabs fs a with
    | none => none
    | some none => some none
    | some (some gs) => runs tabs gs b)
  | [], fs => rfl
  | y :: ss, fs => by
    show (match stp tabs fs y with | none => none | some none => some none | some (some z) => if z.natAbs < 2 ^ BigZ then runs tabs (fs ++ [z]) (ss ++ b) else none) =
      (match (match stp tabs fs y with | none => none | some none => some none | some (some z) => if z.natAbs < 2 ^ BigZ then runs tabs (fs ++ [z]) ss else none : Option (Option (List Int))) with | none => none | some none => some none | some (some gs) => runs tabs gs b)
    cases stp tabs fs y with
    | none => rfl
    | some v =>
      cases v with
      | none => rfl
      | some z =>
        show (if z.natAbs < 2 ^ BigZ then runs tabs (fs ++ [z]) (ss ++ b) else none) = (match (if z.natAbs < 2 ^ BigZ then runs tabs (fs ++ [z]) ss else none : Option (Option (List Int))) with | none => none | some none => some none | some (some gs) => runs tabs gs b)
        by_cases h : z.natAbs < 2 ^ BigZ
        · rw [if_pos h, if_pos h]
          exact runs_app2
        · rw [if_neg h, if_neg h]
theorem Wf.head {tn : Tn'} {ss : List LS} {dn : Dn'} (w : Wf tn ss dn) : ∃ e, dn = [([120], 1)] ++ e := by
  induction w with
  | nil => exact ⟨[], rfl⟩
  | snoc _ _ _ _ ih =>
    obtain ⟨e, h⟩ := ih
    exact ⟨e ++ [_], by rw [h, List.append_assoc]⟩
inductive TabK (H : Hp) : List (Key × V) → Tn' → Prop
  | nil : TabK H [] []
  | cons {a : Addr} {n : List Nat} {zs : List Int} {kvs : List (Key × V)} {tn : Tn'} : H a = some (.lst (zs.map V.int)) → TabK H kvs tn → TabK H ((.inr (Tx n), .ref a) :: kvs) ((n, zs) :: tn)
theorem TabK.get {H : Hp} {kvs : List (Key × V)} {tn : Tn'} (h : TabK H kvs tn) {n : List Nat} : n ∈ tn.map (·.1) → ∃ a zs, valV kvs (.inr (Tx n)) = some (.ref a) ∧ H a = some (.lst (zs.map V.int)) ∧ tn[pos tn n]? = some (n, zs) := by
  induction h with
  | nil => intro z; cases z
  | @cons a m zs kvs tn e _ ih =>
    intro hn
    show ∃ a zs', _ ∧ _ ∧ ((m, zs) :: tn)[if m = n then 0 else pos tn n + 1]? = some (n, zs')
    by_cases hm : m = n
    · subst hm
      exact ⟨a, zs, valV_pos rfl, e, by rw [if_pos rfl]; rfl⟩
    · rw [if_neg hm]
      have h2 : n ∈ tn.map (·.1) := by
        rcases List.mem_cons.mp hn with z | z
        · exact absurd z.symm hm
        · exact z
      obtain ⟨b, ys, e1, e2, e3⟩ := ih h2
      exact ⟨b, ys, by rw [valV_neg (fun z => hm (tx_inj (Sum.inr.inj z)))]; exact e1, e2, e3⟩
def spRun : Sp := fun vs H Q _ => ∃ (l td : Addr) (rs : List Addr) (ss : List LS) (tn : Tn') (dn : Dn') (z : Int) (kvs : List (Key × V)), vs = [.ref l, .ref td, .int z] ∧ H l = some (.lst (rs.map V.ref)) ∧ All2 (LsAt H) rs ss ∧ Wf tn ss dn ∧ TnOk tn ∧
  H td = some (.dK kvs) ∧ TabK H kvs tn ∧ ss.length ≤ 12 ∧ z.natAbs < 2 ^ 139 ∧ (runs (tn.map (·.2)) [z] (ss.map (toStp tn dn)) = some none → ∀ H', Same H H' → Q .non H') ∧
  (∀ fs, runs (tn.map (·.2)) [z] (ss.map (toStp tn dn)) = some (some fs) → ∀ (p : Addr) (H' : Hp), Same H H' → H p = none → H' p = some (.lst ((fs.drop 1).map V.int)) → Q (.ref p) H')
section
variable {P : Program} {w : World} {K : PySem.W.Frag} {mg : Str → Option Value} {base : Heap} {CT CA CL CN NO CP CW : Addr}
abbrev sRun : Stmt := topS 45
theorem scRun : FnScope ["_law_steps", "_law_tables", "_law_x", "_law_known", "_law_name", "_law_sign", "_law_one", "_law_other", "_law_left", "_law_right", "_law_step"] ["_law_steps", "_law_tables", "_law_x"] (defScope sRun) := ⟨rfl, rfl, rfl, by decide +kernel, rfl, by decide +kernel, by decide +kernel⟩
theorem ok_run {f : Addr} {fd : FuncData} (F : Fun K "_law_run" "_law_run" sRun f fd) (T : Bk mg) : FnOk P w K mg base CX0 1 f fd ["_law_steps", "_law_tables", "_law_x"] spRun := by
  refine F.ok scRun (fun vs H Q E h => ?_) (fun cdv A outer s H vs Q E hr h => ?_)
  · obtain ⟨l, td, rs, ss, tn, dn, z, kvs, rfl, _⟩ := h
    rfl
  · obtain ⟨l, td, rs, ss, tn, dn, z, kvs, rfl, hL, hss, wf, tok, hT, htb, hl12, hz, q1, q2⟩ := h
    refine ⟨_, (pss_cons (ps_set (i := 3) scRun.nd rfl (Or.inr rfl) (pe_disp (pps_cons pe_str (pv 2) pps_nil) (by rfl) (by rfl) (fun z => by cases z) (by decide)))
  (pss_cons (ps_for PassesOwn.never rfl (pi_seq (pv 0)) (pg_tup rfl (pgs_cons (pg_name (i := 4) scRun.nd rfl (Or.inl rfl)) (pgs_cons (pg_name (i := 5) scRun.nd rfl (Or.inl rfl)) (pgs_cons (pg_name (i := 6) scRun.nd rfl (Or.inl rfl)) (pgs_cons (pg_name (i := 7) scRun.nd rfl (Or.inl rfl)) pgs_nil)))))
    (pss_cons (ps_par (i := 8) (j := 9) (by rfl) scRun.nd rfl rfl (by decide) rfl rfl (pa_cons (pe_dget2 (hu1 hr.units) (pv 3) (pv 6) (pv 6) ⟨by rfl, by rfl, by rfl, by rfl⟩) (pa_cons (pe_dget2 (hu1 hr.units) (pv 3) (pv 7) (pv 7) ⟨by rfl, by rfl, by rfl, by rfl⟩) pa_nil)) (by rfl))
    (pss_one (ps_if (pt_cmpR op_eq (pv 5) pe_str (nomark _))
      (pss_one (ps_dput (hu1 hr.units) (pv 3) (pv 4) (pe_op op_add (pv 8) (pv 9)) (by rfl)))
      (pss_one (ps_if (pt_cmpR op_eq (pv 5) pe_str (nomark _))
        (pss_one (ps_dput (hu1 hr.units) (pv 3) (pv 4) (pe_op op_sub (pv 8) (pv 9)) (by rfl)))
        (pss_one (ps_if (pt_cmpR op_eq (pv 5) pe_str (nomark _))
          (pss_one (ps_dput (hu1 hr.units) (pv 3) (pv 4) (pe_op op_mulW (pv 8) (pv 9)) (by rfl)))
          (pss_one (ps_if (pt_cmpR op_eq (pv 5) pe_str (nomark _))
            (pss_one (ps_dput (hu1 hr.units) (pv 3) (pv 4) (pe_op op_shrN (pv 8) (pv 7)) (by rfl)))
            (pss_one (ps_if (pt_cmpR op_eq (pv 5) pe_str (nomark _))
              (pss_one (ps_dput (hu1 hr.units) (pv 3) (pv 4) (pe_op op_shlW (pv 8) (pv 7)) (by rfl)))
              (pss_one (ps_if (pt_cmpR op_eq (pv 5) pe_str (nomark _))
                (pss_one (ps_dput (hu1 hr.units) (pv 3) (pv 4) (pe_op op_mod (pe_callTy call_int1 (by rfl) T.int (by decide +kernel) (pa_cons (pv 8) pa_nil)) (pe_op op_shlW pe_int (pv 7))) (by rfl)))
                (pss_one (ps_if (pt_cmpR op_eq (pv 5) pe_str (nomark _))
                  (pss_cons (ps_if (PW.pt (pw_or (pt_cmpR op_lt (pv 9) pe_int (nomark _)) (pw_or1 (pt_cmpR op_ge (pv 9) (pe_callB call_len_seq (by rfl) T.len (by decide +kernel) (pa_cons (pe_dget (hu1 hr.units) (pv 1) (pv 6) (fun _ _ => rfl)) pa_nil)) (nomark _)))))
                    (pss_one (ps_ret pe_non))
                    pss_nil)
                  (pss_one (ps_dput (hu1 hr.units) (pv 3) (pv 4) (pe_ix ix_list (pe_dget (hu1 hr.units) (pv 1) (pv 6) (fun _ _ => rfl)) (pv 9) (fun _ _ => rfl)) (by rfl))))
                  (pss_one (ps_dput (hu1 hr.units) (pv 3) (pv 4) (pv 8) (by rfl)))))))))))))))))))
  (pss_one (ps_ret (pe_lc (own := [("_law_step", 10)]) (g := (gName 10)) (tt := tYes) rfl scRun.nd (pi_seq (pv 0)) (blkOk_by (N := ["_law_steps", "_law_tables", "_law_x", "_law_known", "_law_name", "_law_sign", "_law_one", "_law_other", "_law_left", "_law_right", "_law_step"]) (sc := defScope sRun) (by decide +kernel)) (fun _ _ _ _ _ => pg_name (i := 10) scRun.nd rfl (Or.inl rfl)) (fun _ _ _ _ _ => pts_nil) (fun _ _ _ _ _ => (pe_dget (hu1 hr.units) (pv 3) (pe_ix (r := rIxT K) ix_tup (pv 10) pe_int (fun _ _ => rfl)) (fun _ _ => rfl)))))))), ?_⟩
    refine fun d nd => ⟨_, rfl, upd_same, [(.inr ("x" : Str), .int z)], rfl, (by show 1 ≤ 15; decide), ?_⟩
    have em : mergeK [] [((.inr ("x" : Str) : Key), V.int z)] = kvK [([120], 1)] [z] := by rw [lit_x]; rfl
    rw [em]
    have ed : upd (upd H d (HO.dK [])) d (HO.dK (kvK [([120], 1)] [z])) d = some (HO.dK (kvK [([120], 1)] [z])) := upd_same
    have s1 : Same H (upd (upd H d (HO.dK [])) d (HO.dK (kvK [([120], 1)] [z]))) := fun b o e => by
      rw [upd_ne (ne_of_none e nd), upd_ne (ne_of_none e nd)]
      exact e
    generalize upd (upd H d (HO.dK [])) d (HO.dK (kvK [([120], 1)] [z])) = H1 at ed s1 ⊢
    have lt := hss.len
    obtain ⟨e0, he0⟩ := wf.head
    have full : ∀ i dn' e, Wf tn (ss.take i) dn' → dn = dn' ++ e → (ss.take i).map (toStp tn dn) = (ss.take i).map (toStp tn dn') := fun i dn' e w1 e1 => by rw [e1, w1.map]
    refine ⟨_, rfl, l, rfl, .inl ⟨_, SqL.of (s1 _ _ hL), for_list (xs := rs.map V.ref) (fun i σ H3 => ∃ (dn' e : Dn') (fs : List Int) (v4 v5 v6 v7 v8 v9 : Option V), σ = [some (.ref l), some (.ref td), some (.int z), some (.ref d), v4, v5, v6, v7, v8, v9, none] ∧ Same H H3 ∧ H3 d = some (.dK (kvK dn' fs)) ∧ Wf tn (ss.take i) dn' ∧ dn = dn' ++ e ∧ runs (tn.map (·.2)) [z] ((ss.take i).map (toStp tn dn')) = some (some fs) ∧ Held' dn' i fs)
      ⟨[([120], 1)], e0, [z], none, none, none, none, none, none, rfl, s1, ed, .nil, ?_, rfl, ?_⟩ (fun i σ H3 _ ⟨_, _, _, _, _, _, _, _, _, _, s3, _⟩ => SqL.of (s3 _ _ hL)) ?_ ?_⟩⟩
    · exact he0
    · refine ⟨rfl, fun i n d v h1 h2 => ?_⟩
      match i, h1, h2 with
      | 0, h1, h2 =>
        cases h1
        cases h2
        exact ⟨by decide, lt_pow hz (by decide)⟩
    · rintro i xv σ H3 hx ⟨dn', e, fs, v4, v5, v6, v7, v8, v9, rfl, s3, ed3, w3, edn, er3, hh⟩
      obtain ⟨r, hr1, rfl⟩ : ∃ r, rs[i]? = some r ∧ xv = V.ref r := by
        rw [List.getElem?_map] at hx
        cases h : rs[i]? with
        | none => rw [h] at hx; cases hx
        | some r => rw [h] at hx; exact ⟨r, rfl, (Option.some.inj hx).symm⟩
      obtain ⟨st, hs1, er⟩ := hss.at hr1
      have er : H r = some (.tup [.str (Tx st.name), .str (Tx st.sign), loV st.one, loV st.oth]) := er
      have er3' := s3 _ _ er
      obtain ⟨dn2, dg, e2, b1, b2, b3, b4, b5, b6⟩ := wf.at hs1
      have ilt := (List.getElem?_eq_some_iff.mp hs1).1
      have same : dn2 = dn' := by
        have l1 := b1.len
        have l2 := w3.len
        have : dn2 ++ ([(st.name, dg)] ++ e2) = dn' ++ e := by rw [← edn, b6, List.append_assoc]
        exact (List.append_inj this (by rw [l1, l2])).1
      subst same
      have stk : ss.take (i + 1) = ss.take i ++ [st] := by rw [List.take_succ_eq_append_getElem ilt, (List.getElem?_eq_some_iff.mp hs1).2]
      have whole : runs (tn.map (·.2)) [z] (ss.map (toStp tn dn)) = (match runs (tn.map (·.2)) fs [toStp tn dn2 st] with
          | none => none
          | some none => some none
          | some (some gs) => runs (tn.map (·.2)) gs ((ss.drop (i + 1)).map (toStp tn dn))) := by
        have e1 : ss.map (toStp tn dn) = (ss.take i).map (toStp tn dn2) ++ ([toStp tn dn2 st] ++ (ss.drop (i + 1)).map (toStp tn dn)) := by
          rw [← full i dn2 e w3 edn, show [toStp tn dn2 st] = [toStp tn dn st] by rw [edn, toStp_app b2], ← List.map_singleton, ← List.map_append, ← List.map_append, ← List.append_assoc, ← stk, List.take_append_drop]
        rw [e1, runs_app2, er3]
        exact runs_app2
      have next : ∀ v, stp (tn.map (·.2)) fs (toStp tn dn2 st) = some (some v) → v.natAbs < 2 ^ bnd dg (i + 1) → ∀ (v4 v5 v6 v7 v8 v9 : Option V), ∃ (dn' e : Dn') (gs : List Int) (w4 w5 w6 w7 w8 w9 : Option V), [some (V.ref l), some (.ref td), some (.int z), some (.ref d), v4, v5, v6, v7, v8, v9, none] = [some (V.ref l), some (.ref td), some (.int z), some (.ref d), w4, w5, w6, w7, w8, w9, none] ∧ Same H (upd H3 d (.dK (putK (kvK dn2 fs) (.inr (Tx st.name)) (.int v)))) ∧ upd H3 d (.dK (putK (kvK dn2 fs) (.inr (Tx st.name)) (.int v))) d = some (.dK (kvK dn' gs)) ∧ Wf tn (ss.take (i + 1)) dn' ∧ dn = dn' ++ e ∧ runs (tn.map (·.2)) [z] ((ss.take (i + 1)).map (toStp tn dn')) = some (some gs) ∧ Held' dn' (i + 1) gs := fun v hv hb v4 v5 v6 v7 v8 v9 => by
        refine ⟨dn2 ++ [(st.name, dg)], e2, fs ++ [v], v4, v5, v6, v7, v8, v9, rfl, fun b o eb => ?_, ?_, b5, b6, ?_, ?_⟩
        · rw [upd_ne (ne_of_none eb nd)]
          exact s3 _ _ eb
        · rw [upd_same, putK_new _ (kvK_no b4.nd), kvK_snoc hh.1]
        · rw [stk, List.map_append, w3.map, List.map_singleton, toStp_app b2, runs_app, er3]
          exact runs_one hv (lt_pow hb (bnd_big b3 (by omega)))
        · refine ⟨by rw [List.length_append, List.length_append, hh.1]; rfl, fun j n e' y h3 h4 => ?_⟩
          by_cases hj : j < dn2.length
          · rw [List.getElem?_append_left hj] at h3
            rw [List.getElem?_append_left (by rw [hh.1]; exact hj)] at h4
            obtain ⟨x1, x2⟩ := hh.2 j n e' y h3 h4
            exact ⟨x1, lt_pow x2 (by have := bnd_up e' i; omega)⟩
          · rw [List.getElem?_append_right (by omega)] at h3
            rw [List.getElem?_append_right (by rw [hh.1]; omega), hh.1] at h4
            match hq : j - dn2.length, h3, h4 with
            | 0, h3, h4 =>
              cases h3
              cases h4
              exact ⟨b3, hb⟩
      have kl : (kvK dn2 fs).length < sizeLine := by
        rw [kvK_len hh.1, w3.len, List.length_take, sizeLine_eq]
        omega
      obtain ⟨nm, sg, one, oth⟩ := st
      refine ⟨r, _, rfl, SqT.of er3', rfl, _, _, rfl, _, _, rfl, _, _, rfl, _, _, rfl, rfl, ?_⟩
      refine ⟨_, rfl, d, rfl, .inl ⟨_, .inl ed3⟩, _, rfl, _, rfl, _, (by rw [← loKey_v]; exact DGet.k ed3), _, rfl, d, rfl, .inl ⟨_, .inl ed3⟩, _, rfl, _, rfl, _, (by rw [← loKey_v]; exact DGet.k ed3), _, _, rfl, ?_⟩
      have bd : ∀ y, stp (tn.map (·.2)) fs (toStp tn dn2 ⟨nm, sg, one, oth⟩) = some (some y) → y.natAbs < 2 ^ bnd dg (i + 1) := fun y hy => by
        rcases step_fine hh (by omega) b2 b3 tok.fine with h | ⟨v, hv, hb⟩
        · rw [hy] at h; cases h
        · rw [hy] at hv; cases hv; exact hb
      cases b2 with
      | same h1 h2 =>
        cases h1
        obtain ⟨m1, e1, hm1⟩ := h2.val hh (by omega)
        have gv1 := getV_ok hh.1 h2 e1
        refine ⟨_, rfl, rfl, _, rfl, ?_⟩
        rw [lit_pls, tx_eq, decide_eq_false (fun y => by cases y)]
        refine iteF ?_
        refine ⟨_, rfl, rfl, _, rfl, ?_⟩
        rw [lit_mns, tx_eq, decide_eq_false (fun y => by cases y)]
        refine iteF ?_
        refine ⟨_, rfl, rfl, _, rfl, ?_⟩
        rw [lit_star, tx_eq, decide_eq_false (fun y => by cases y)]
        refine iteF ?_
        refine ⟨_, rfl, rfl, _, rfl, ?_⟩
        rw [lit_gt, tx_eq, decide_eq_false (fun y => by cases y)]
        refine iteF ?_
        refine ⟨_, rfl, rfl, _, rfl, ?_⟩
        rw [lit_lt, tx_eq, decide_eq_false (fun y => by cases y)]
        refine iteF ?_
        refine ⟨_, rfl, rfl, _, rfl, ?_⟩
        rw [lit_amp, tx_eq, decide_eq_false (fun y => by cases y)]
        refine iteF ?_
        refine ⟨_, rfl, rfl, _, rfl, ?_⟩
        rw [lit_open, tx_eq, decide_eq_false (fun y => by cases y)]
        refine iteF ?_
        have est : stp (tn.map (·.2)) fs (toStp tn dn2 ⟨nm, [], one, oth⟩) = some (some m1) := by
          show (match oVal fs (opdOf dn2 one) with | none => none | some n => some (some n)) = _
          rw [e1]
        have nx := next m1 est (bd _ est)
        rw [← gv1] at nx
        refine ⟨_, rfl, _, rfl, _, rfl, d, _, rfl, DPut.k (k := .inr (Tx nm)) ed3 kl, ?_⟩
        exact nx _ _ _ _ _ _
      | @add d1 d2 h1 h2 h3 h4 =>
        obtain ⟨m1, e1, hm1⟩ := h2.val hh (by omega)
        obtain ⟨m2, e2', hm2⟩ := h3.val hh (by omega)
        have gv1 := getV_ok hh.1 h2 e1
        have gv2 := getV_ok hh.1 h3 e2'
        rcases h1 with h1 | h1 <;> cases h1
        · skip
          refine ⟨_, rfl, rfl, _, rfl, ?_⟩
          rw [lit_pls, tx_eq, decide_eq_true rfl]
          refine iteT ?_
          have est : stp (tn.map (·.2)) fs (toStp tn dn2 ⟨nm, [43], one, oth⟩) = some (some (m1 + m2)) := by
            show (match oVal fs (opdOf dn2 one) with | none => none | some n => (match oVal fs (opdOf dn2 oth) with | some m => some (some (n + m)) | none => none)) = _
            rw [e1, e2']
          refine ⟨_, rfl, _, rfl, m1, m2, gv1, gv2, _, rfl, _, rfl, d, _, rfl, DPut.k (k := .inr (Tx nm)) ed3 kl, ?_⟩
          exact next _ est (bd _ est) _ _ _ _ _ _
        · skip
          refine ⟨_, rfl, rfl, _, rfl, ?_⟩
          rw [lit_pls, tx_eq, decide_eq_false (fun y => by cases y)]
          refine iteF ?_
          refine ⟨_, rfl, rfl, _, rfl, ?_⟩
          rw [lit_mns, tx_eq, decide_eq_true rfl]
          refine iteT ?_
          have est : stp (tn.map (·.2)) fs (toStp tn dn2 ⟨nm, [45], one, oth⟩) = some (some (m1 - m2)) := by
            show (match oVal fs (opdOf dn2 one) with | none => none | some n => (match oVal fs (opdOf dn2 oth) with | some m => some (some (n - m)) | none => none)) = _
            rw [e1, e2']
          refine ⟨_, rfl, _, rfl, m1, m2, gv1, gv2, _, rfl, _, rfl, d, _, rfl, DPut.k (k := .inr (Tx nm)) ed3 kl, ?_⟩
          exact next _ est (bd _ est) _ _ _ _ _ _
      | @mul d1 d2 h1 h2 h3 h4 h5 h6 =>
        cases h1
        obtain ⟨m1, e1, hm1⟩ := h2.val hh (by omega)
        obtain ⟨m2, e2', hm2⟩ := h3.val hh (by omega)
        have gv1 := getV_ok hh.1 h2 e1
        have gv2 := getV_ok hh.1 h3 e2'
        have hm1 : m1.natAbs < 2 ^ 9000 := oVal_big (fun m hm => by
          obtain ⟨j, hj⟩ := List.getElem?_of_mem hm
          have jl := (List.getElem?_eq_some_iff.mp hj).1
          rw [hh.1] at jl
          obtain ⟨x1, x2⟩ := hh.2 j _ _ m (List.getElem?_eq_getElem jl) hj
          exact lt_pow x2 (bnd_big x1 (by omega))) e1
        have hm2 : m2.natAbs < 2 ^ 9000 := oVal_big (fun m hm => by
          obtain ⟨j, hj⟩ := List.getElem?_of_mem hm
          have jl := (List.getElem?_eq_some_iff.mp hj).1
          rw [hh.1] at jl
          obtain ⟨x1, x2⟩ := hh.2 j _ _ m (List.getElem?_eq_getElem jl) hj
          exact lt_pow x2 (bnd_big x1 (by omega))) e2'
        · skip
          refine ⟨_, rfl, rfl, _, rfl, ?_⟩
          rw [lit_pls, tx_eq, decide_eq_false (fun y => by cases y)]
          refine iteF ?_
          refine ⟨_, rfl, rfl, _, rfl, ?_⟩
          rw [lit_mns, tx_eq, decide_eq_false (fun y => by cases y)]
          refine iteF ?_
          refine ⟨_, rfl, rfl, _, rfl, ?_⟩
          rw [lit_star, tx_eq, decide_eq_true rfl]
          refine iteT ?_
          have est : stp (tn.map (·.2)) fs (toStp tn dn2 ⟨nm, [42], one, oth⟩) = some (some (m1 * m2)) := by
            show (match oVal fs (opdOf dn2 one) with | none => none | some n => (match oVal fs (opdOf dn2 oth) with | some m => some (some (n * m)) | none => none)) = _
            rw [e1, e2']
          refine ⟨_, rfl, _, rfl, m1, m2, gv1, gv2, wide_mul hm1 hm2 (by decide +kernel) (by decide +kernel) (by decide +kernel), _, rfl, _, rfl, d, _, rfl, DPut.k (k := .inr (Tx nm)) ed3 kl, ?_⟩
          exact next _ est (bd _ est) _ _ _ _ _ _
      | @cut k h1 h2 h3 h4 =>
        have h3 : oth = .nu (k : Int) := h3
        subst h3
        obtain ⟨m1, e1, hm1⟩ := h2.val hh (by omega)
        have gv1 := getV_ok hh.1 h2 e1
        have k60 : k ≤ 60 := by omega
        have mb : m1.natAbs < 2 ^ BigZ := lt_pow hm1 (bnd_big b3 (by omega))
        rcases h1 with h1 | h1 | h1 <;> cases h1
        · skip
          refine ⟨_, rfl, rfl, _, rfl, ?_⟩
          rw [lit_pls, tx_eq, decide_eq_false (fun y => by cases y)]
          refine iteF ?_
          refine ⟨_, rfl, rfl, _, rfl, ?_⟩
          rw [lit_mns, tx_eq, decide_eq_false (fun y => by cases y)]
          refine iteF ?_
          refine ⟨_, rfl, rfl, _, rfl, ?_⟩
          rw [lit_star, tx_eq, decide_eq_false (fun y => by cases y)]
          refine iteF ?_
          refine ⟨_, rfl, rfl, _, rfl, ?_⟩
          rw [lit_gt, tx_eq, decide_eq_true rfl]
          refine iteT ?_
          have est : stp (tn.map (·.2)) fs (toStp tn dn2 ⟨nm, [62], one, .nu (k : Int)⟩) = some (some (m1 / 2 ^ k)) := by
            show (match oVal fs (opdOf dn2 one) with | none => none | some n => if (k : Int).natAbs ≤ 60 then some (some (n / 2 ^ (k : Int).natAbs)) else none) = _
            rw [e1]
            show (if (k : Int).natAbs ≤ 60 then some (some (m1 / 2 ^ (k : Int).natAbs)) else none) = _
            rw [Int.natAbs_natCast, if_pos k60]
          refine ⟨_, rfl, _, rfl, m1, k, gv1, rfl, _, rfl, _, rfl, d, _, rfl, DPut.k (k := .inr (Tx nm)) ed3 kl, ?_⟩
          exact next _ est (bd _ est) _ _ _ _ _ _
        · skip
          refine ⟨_, rfl, rfl, _, rfl, ?_⟩
          rw [lit_pls, tx_eq, decide_eq_false (fun y => by cases y)]
          refine iteF ?_
          refine ⟨_, rfl, rfl, _, rfl, ?_⟩
          rw [lit_mns, tx_eq, decide_eq_false (fun y => by cases y)]
          refine iteF ?_
          refine ⟨_, rfl, rfl, _, rfl, ?_⟩
          rw [lit_star, tx_eq, decide_eq_false (fun y => by cases y)]
          refine iteF ?_
          refine ⟨_, rfl, rfl, _, rfl, ?_⟩
          rw [lit_gt, tx_eq, decide_eq_false (fun y => by cases y)]
          refine iteF ?_
          refine ⟨_, rfl, rfl, _, rfl, ?_⟩
          rw [lit_lt, tx_eq, decide_eq_true rfl]
          refine iteT ?_
          have est : stp (tn.map (·.2)) fs (toStp tn dn2 ⟨nm, [60], one, .nu (k : Int)⟩) = some (some (m1 * 2 ^ (k : Int).toNat)) := by
            show (match oVal fs (opdOf dn2 one) with | none => none | some n => if (k : Int).natAbs ≤ 60 then some (some (n * 2 ^ (k : Int).natAbs)) else none) = _
            rw [e1]
            show (if (k : Int).natAbs ≤ 60 then some (some (m1 * 2 ^ (k : Int).natAbs)) else none) = _
            rw [Int.natAbs_natCast, if_pos k60, Int.toNat_natCast]
          refine ⟨_, rfl, _, rfl, m1, (k : Int), gv1, rfl, shl_fine mb k60, _, rfl, _, rfl, d, _, rfl, DPut.k (k := .inr (Tx nm)) ed3 kl, ?_⟩
          exact next _ est (bd _ est) _ _ _ _ _ _
        · skip
          refine ⟨_, rfl, rfl, _, rfl, ?_⟩
          rw [lit_pls, tx_eq, decide_eq_false (fun y => by cases y)]
          refine iteF ?_
          refine ⟨_, rfl, rfl, _, rfl, ?_⟩
          rw [lit_mns, tx_eq, decide_eq_false (fun y => by cases y)]
          refine iteF ?_
          refine ⟨_, rfl, rfl, _, rfl, ?_⟩
          rw [lit_star, tx_eq, decide_eq_false (fun y => by cases y)]
          refine iteF ?_
          refine ⟨_, rfl, rfl, _, rfl, ?_⟩
          rw [lit_gt, tx_eq, decide_eq_false (fun y => by cases y)]
          refine iteF ?_
          refine ⟨_, rfl, rfl, _, rfl, ?_⟩
          rw [lit_lt, tx_eq, decide_eq_false (fun y => by cases y)]
          refine iteF ?_
          refine ⟨_, rfl, rfl, _, rfl, ?_⟩
          rw [lit_amp, tx_eq, decide_eq_true rfl]
          refine iteT ?_
          have est : stp (tn.map (·.2)) fs (toStp tn dn2 ⟨nm, [38], one, .nu (k : Int)⟩) = some (some (m1 % (1 * 2 ^ (k : Int).toNat))) := by
            show (match oVal fs (opdOf dn2 one) with | none => none | some n => if (k : Int).natAbs ≤ 60 then some (some (n % 2 ^ (k : Int).natAbs)) else none) = _
            rw [e1]
            show (if (k : Int).natAbs ≤ 60 then some (some (m1 % 2 ^ (k : Int).natAbs)) else none) = _
            rw [Int.natAbs_natCast, if_pos k60, Int.toNat_natCast, Int.one_mul]
          refine ⟨_, rfl, .inl ⟨m1, congrArg (fun v => [v]) gv1, _, rfl, _, _, rfl, rfl, shl_fine (by decide +kernel) k60, _, _, rfl, rfl, (by show (0 : Int) < 1 * 2 ^ _; rw [Int.one_mul]; exact Int.pow_pos (by decide)), _, rfl, _, rfl, d, _, rfl, DPut.k (k := .inr (Tx nm)) ed3 kl, ?_⟩⟩
          exact next _ est (bd _ est) _ _ _ _ _ _
      | @cell n d1 h1 h2 h3 h4 h5 =>
        cases h1
        have h2 : one = .nm n := h2
        subst h2
        obtain ⟨m2, e2', hm2⟩ := h4.val hh (by omega)
        have gv2 := getV_ok hh.1 h4 e2'
        obtain ⟨ta, zs, tk1, tk2, tk3⟩ := htb.get h3
        have tb : (tn.map (·.2))[pos tn n]? = some zs := by rw [List.getElem?_map, tk3]; rfl
        have est : stp (tn.map (·.2)) fs (toStp tn dn2 ⟨nm, [91], .nm n, oth⟩) = if 0 ≤ m2 ∧ m2 < zs.length then some zs[m2.toNat]? else some none := by
          obtain ⟨tabs, htabs⟩ : ∃ tabs : List (List Int), tabs = tn.map (·.2) := ⟨_, rfl⟩
          rw [← htabs] at tb ⊢
          show (match oVal fs (opdOf dn2 oth) with | none => none | some n1 => (match tabs[pos tn n]? with | none => none | some ns => if 0 ≤ n1 ∧ n1 < ns.length then some ns[n1.toNat]? else some none)) = _
          rw [e2']
          show (match tabs[pos tn n]? with | none => none | some ns => if 0 ≤ m2 ∧ m2 < ns.length then some ns[m2.toNat]? else some none) = _
          rw [tb]
        have wide : ¬ (0 ≤ m2 ∧ m2 < zs.length) → Q .non H3 := fun no => by
          rw [if_neg no] at est
          rw [runs_wide est] at whole
          exact q1 whole H3 s3
        have etd := s3 _ _ hT
        have eta := s3 _ _ tk2
        refine ⟨_, rfl, rfl, _, rfl, ?_⟩
        rw [lit_pls, tx_eq, decide_eq_false (fun y => by cases y)]
        refine iteF ?_
        refine ⟨_, rfl, rfl, _, rfl, ?_⟩
        rw [lit_mns, tx_eq, decide_eq_false (fun y => by cases y)]
        refine iteF ?_
        refine ⟨_, rfl, rfl, _, rfl, ?_⟩
        rw [lit_star, tx_eq, decide_eq_false (fun y => by cases y)]
        refine iteF ?_
        refine ⟨_, rfl, rfl, _, rfl, ?_⟩
        rw [lit_gt, tx_eq, decide_eq_false (fun y => by cases y)]
        refine iteF ?_
        refine ⟨_, rfl, rfl, _, rfl, ?_⟩
        rw [lit_lt, tx_eq, decide_eq_false (fun y => by cases y)]
        refine iteF ?_
        refine ⟨_, rfl, rfl, _, rfl, ?_⟩
        rw [lit_amp, tx_eq, decide_eq_false (fun y => by cases y)]
        refine iteF ?_
        refine ⟨_, rfl, rfl, _, rfl, ?_⟩
        rw [lit_open, tx_eq, decide_eq_true rfl]
        refine iteT ?_
        refine ⟨_, rfl, _, _, gv2, rfl, _, rfl, ?_⟩
        by_cases n0 : m2 < 0
        · rw [decide_eq_true n0]
          refine iteT ?_
          refine iteT ?_
          exact wide (fun z => by omega)
        · rw [decide_eq_false n0]
          refine iteF ?_
          refine ⟨_, rfl, _, rfl, _, rfl, td, .ref ta, rfl, (by rw [← tk1]; exact DGet.k (k := .inr (Tx n)) etd), ta, _, rfl, .inl (SqL.of eta), _, _, gv2, rfl, _, rfl, ?_⟩
          rw [List.length_map]
          by_cases n1 : m2 ≥ zs.length
          · rw [decide_eq_true n1]
            refine iteT ?_
            exact wide (fun z => by omega)
          · rw [decide_eq_false n1]
            refine iteF ?_
            have nt : m2.toNat < zs.length := by omega
            have hy : zs[m2.toNat]? = some zs[m2.toNat] := List.getElem?_eq_getElem nt
            rw [if_pos (by omega), hy] at est
            have at2 : atI (zs.map V.int) m2 = some (.int zs[m2.toNat]) := by
              have := atI_nat (xs := zs.map V.int) (k := m2.toNat) (v := .int zs[m2.toNat]) (by rw [List.getElem?_map, hy]; rfl)
              rw [Int.toNat_of_nonneg (by omega)] at this
              exact this
            refine ⟨_, rfl, _, rfl, td, .ref ta, rfl, (by rw [← tk1]; exact DGet.k (k := .inr (Tx n)) etd), _, rfl, ta, _, m2, .int zs[m2.toNat], rfl, gv2, SqL.of eta, at2, _, rfl, _, rfl, d, _, rfl, DPut.k (k := .inr (Tx nm)) ed3 kl, ?_⟩
            exact next _ est (bd _ est) _ _ _ _ _ _
    · rintro σ H3 ⟨dn', e, fs, v4, v5, v6, v7, v8, v9, rfl, s3, ed3, w3, edn, er3, hh⟩
      have tk : ss.take (rs.map V.ref).length = ss := by rw [List.length_map, lt, List.take_length]
      rw [tk] at w3 er3
      have en : e = [] := by
        have l1 := wf.len
        have l2 := w3.len
        rw [edn, List.length_append] at l1
        exact List.length_eq_zero_iff.mp (by omega)
      subst en
      rw [List.append_nil] at edn
      subst edn
      have q2 := q2 fs er3
      have place : ∀ {i : Nat} {st : LS}, ss[i]? = some st → pos dn st.name = i + 1 ∧ st.name ∈ dn.map (·.1) := fun {i st} hs => by
        obtain ⟨dn2, dg, e2, b1, b2, b3, b4, b5, b6⟩ := wf.at hs
        have l1 := b1.len
        have ilt := (List.getElem?_eq_some_iff.mp hs).1
        rw [List.length_take, Nat.min_eq_left (by omega)] at l1
        refine ⟨?_, ?_⟩
        · rw [b6, pos_app (by rw [List.map_append]; exact List.mem_append_right _ List.mem_cons_self), pos_end b4.nd, l1]
        · rw [b6, List.map_append, List.map_append]
          exact List.mem_append_left _ (List.mem_append_right _ List.mem_cons_self)
      have fl : fs.length = ss.length + 1 := by rw [hh.1, wf.len]
      refine ⟨_, rfl, l, rfl, lc_seq (xs := rs.map V.ref) (.inl (SqL.of (s3 _ _ hL))) (fun D i H4 => Same H3 H4 ∧ H4 D = some (.lst (((fs.drop 1).take i).map V.int))) ?_ ?_ ?_ ?_⟩
      · intro D nD
        exact ⟨same_upd nD, upd_same⟩
      · intro D i H4 nD ⟨s4, _⟩
        exact ⟨same_sqL s4, same_sqT s4⟩
      · intro D i xv H4 nD hi ⟨s4, eD⟩
        obtain ⟨r, hr1, rfl⟩ : ∃ r, rs[i]? = some r ∧ xv = V.ref r := by
          rw [List.getElem?_map] at hi
          cases h : rs[i]? with
          | none => rw [h] at hi; cases hi
          | some r => rw [h] at hi; exact ⟨r, rfl, (Option.some.inj hi).symm⟩
        obtain ⟨st, hs1, er⟩ := hss.at hr1
        have er : H r = some (.tup [.str (Tx st.name), .str (Tx st.sign), loV st.one, loV st.oth]) := er
        obtain ⟨pe1, pe2⟩ := place hs1
        obtain ⟨v, ev, kv⟩ := kvK_get hh.1 pe2
        rw [pe1] at ev
        have ilt := (List.getElem?_eq_some_iff.mp hs1).1
        have dlt : i < (fs.drop 1).length := by rw [List.length_drop]; omega
        have dv : (fs.drop 1)[i] = v := by
          have : (fs.drop 1)[i]? = some v := by rw [List.getElem?_drop, Nat.add_comm]; exact ev
          rw [List.getElem?_eq_getElem dlt] at this
          exact Option.some.inj this
        refine ⟨rfl, ?_⟩
        refine ⟨_, rfl, _, rfl, r, _, 0, V.str (Tx st.name), rfl, rfl, SqT.of (s4 _ _ (s3 _ _ er)), rfl, d, .int v, rfl, (by rw [← kv]; exact DGet.k (k := .inr (Tx st.name)) (s4 _ _ ed3)), ?_⟩
        refine ⟨_, eD, (by rw [List.length_map, List.length_take, sizeLine_eq]; omega), fun b o eb => ?_, ?_⟩
        · rw [upd_ne (ne_of_none eb nD)]
          exact s4 _ _ eb
        · rw [upd_same, List.take_succ_eq_append_getElem dlt, List.map_append, dv]
          rfl
      · intro D H4 nD ⟨s4, eD⟩
        have full2 : (fs.drop 1).take (rs.map V.ref).length = fs.drop 1 := List.take_of_length_le (by rw [List.length_drop, List.length_map]; omega)
        rw [full2] at eD
        exact q2 D H4 (s3.trans s4) (s3.free nD) eD
end

end Vf

set_option maxRecDepth 100000
set_option maxHeartbeats 8000000
namespace Vf
open PySem PySem.Spec PyProof.Rows L2
/-! ### the program that the law draws -/
def dK' (dn : Dn') : List (Key × V) := dn.map fun p => (.inr (Tx p.1), .int p.2)
theorem dK_no {n : List Nat} : ∀ {dn : Dn'}, n ∉ dn.map (·.1) → valV (dK' dn) (.inr (Tx n)) = none
  | [], _ => valV_nil
  | p :: dn, h => by
    show valV ((.inr (Tx p.1), .int p.2) :: dK' dn) (.inr (Tx n)) = none
    rw [valV_neg (fun z => h (by rw [← tx_inj (Sum.inr.inj z)]; exact List.mem_cons_self)), dK_no fun z => h (List.mem_cons_of_mem _ z)]
theorem dK_int {z : Int} : ∀ {dn : Dn'}, valV (dK' dn) (.inl z) = none
  | [] => valV_nil
  | p :: dn => by
    show valV ((.inr (Tx p.1), .int p.2) :: dK' dn) (.inl z) = none
    rw [valV_neg (show (Sum.inr (Tx p.1) : Key) ≠ Sum.inl z from fun y => by cases y), dK_int]
theorem dK_get {n : List Nat} {d : Nat} : ∀ {dn : Dn'}, dn[pos dn n]? = some (n, d) → valV (dK' dn) (.inr (Tx n)) = some (.int d)
  | [], h => by cases h
  | p :: dn, h => by
    have h : (p :: dn)[if p.1 = n then 0 else pos dn n + 1]? = some (n, d) := h
    show valV ((.inr (Tx p.1), .int p.2) :: dK' dn) (.inr (Tx n)) = some (.int d)
    by_cases hp : p.1 = n
    · rw [if_pos hp] at h
      cases h
      exact valV_pos rfl
    · rw [if_neg hp] at h
      rw [valV_neg (fun z => hp (tx_inj (Sum.inr.inj z)))]
      exact dK_get h
theorem valV_mem {k : Key} : ∀ {kvs : List (Key × V)}, valV kvs k = none → ∀ p ∈ kvs, p.1 ≠ k
  | [], _, p, hp => by cases hp
  | q :: kvs, h, p, hp => by
    have hq : q.1 ≠ k := fun e => by rw [valV_pos e] at h; cases h
    rw [valV_neg hq] at h
    rcases List.mem_cons.mp hp with e | e
    · rw [e]; exact hq
    · exact valV_mem h p e
theorem putK_last {kvs : List (Key × V)} {k : Key} {v v' : V} (h : valV kvs k = none) : putK (kvs ++ [(k, v)]) k v' = kvs ++ [(k, v')] := by
  unfold putK
  rw [if_pos (by rw [valV_any, valV_snoc _ _ _ _ h, if_pos rfl]; rfl), List.map_append, List.map_singleton, if_pos rfl]
  congr 1
  have : ∀ p ∈ kvs, (if p.1 = k then (p.1, v') else p) = p := fun p hp => if_neg (valV_mem h p hp)
  exact (List.map_congr_left this).trans (List.map_id _)
theorem putK_len (kvs : List (Key × V)) (k : Key) (v : V) : (putK kvs k v).length ≤ kvs.length + 1 := by
  unfold putK
  split
  · rw [List.length_map]; omega
  · rw [List.length_append]; exact Nat.le_refl _
def HgOk (kh : List (Key × V)) : Prop := ∀ k v, valV kh k = some v → ∃ h : Int, v = .int h ∧ 0 ≤ h ∧ h ≤ 60
theorem HgOk.get {kh : List (Key × V)} (g : HgOk kh) (k : Key) : ∃ h : Int, (valV kh k).getD (.int 0) = .int h ∧ 0 ≤ h ∧ h ≤ 60 := by
  cases e : valV kh k with
  | none => exact ⟨0, rfl, by decide, by decide⟩
  | some v => exact g k v e
theorem HgOk.put {kh : List (Key × V)} (g : HgOk kh) (k : Key) {h : Int} (h0 : 0 ≤ h) (h1 : h ≤ 60) : HgOk (putK kh k (.int h)) := fun j v e => by
  rw [valV_put] at e
  by_cases hj : j = k
  · rw [if_pos hj] at e
    cases e
    exact ⟨h, rfl, h0, h1⟩
  · rw [if_neg hj] at e
    exact g j v e
theorem Wf.d4 {tn : Tn'} {ss : List LS} {dn : Dn'} (w : Wf tn ss dn) : ∀ p ∈ dn, p.2 ≤ 4 := by
  induction w with
  | nil => intro p hp; rw [List.mem_singleton.mp hp]; decide
  | snoc _ _ h4 _ ih =>
    intro p hp
    rcases List.mem_append.mp hp with e | e
    · exact ih p e
    · rw [List.mem_singleton.mp e]; exact h4
theorem nm_x : Nm [120] := ⟨⟨120, rfl, by decide⟩, by decide, by decide⟩
theorem Wf.nm {tn : Tn'} {ss : List LS} {dn : Dn'} (w : Wf tn ss dn) : ∀ n ∈ dn.map (·.1), Nm n := by
  induction w with
  | nil => intro n hn; rw [List.mem_singleton.mp hn]; exact nm_x
  | snoc _ _ _ h ih =>
    intro n hn
    rw [List.map_append] at hn
    rcases List.mem_append.mp hn with e | e
    · exact ih n e
    · rw [List.mem_singleton.mp e]; exact h.nm
theorem Wf.names {tn : Tn'} {ss : List LS} {dn : Dn'} (w : Wf tn ss dn) : dn.map (·.1) = [120] :: ss.map (·.name) := by
  induction w with
  | nil => rfl
  | snoc _ _ _ _ ih => rw [List.map_append, List.map_append, ih]; rfl
theorem InOp.deg {dn : Dn'} (d4 : ∀ p ∈ dn, p.2 ≤ 4) (nm : ∀ n ∈ dn.map (·.1), Nm n) {o : LOp} (h : InOp (dn.map (·.1)) o) : ∃ d : Nat, d ≤ 4 ∧ OpOk dn o d ∧ (valV (dK' dn) (loKey o)).getD (.int 0) = .int d ∧ NmO o ∧ LoSz o := by
  cases o with
  | nu z =>
    refine ⟨0, by decide, ⟨rfl, h⟩, ?_, trivial, h⟩
    show (valV (dK' dn) (.inl z)).getD _ = _
    rw [dK_int]; rfl
  | nm n =>
    have h : n ∈ dn.map (·.1) := h
    obtain ⟨d, e⟩ := pos_lt h
    refine ⟨d, d4 _ (List.mem_of_getElem? e), ⟨h, e⟩, ?_, nm n h, (nm n h).len⟩
    show (valV (dK' dn) (.inr (Tx n))).getD _ = _
    rw [dK_get e]; rfl
def basesN : List (List Nat) := [[97], [98], [115, 116, 101, 112], [120, 49], [121], [113, 55]]
def nmB (n : List Nat) : Bool := (match n with | c :: _ => isL c && decide (c ≠ 116) | [] => false) && n.all isN && decide (n.length ≤ 8) && decide (n ≠ [120])
theorem nmB_ok {n : List Nat} (h : nmB n = true) : Nm n ∧ n ≠ [120] ∧ n[0]? ≠ some 116 := by
  unfold nmB at h
  rw [Bool.and_eq_true, Bool.and_eq_true, Bool.and_eq_true] at h
  obtain ⟨⟨⟨h1, h2⟩, h3⟩, h4⟩ := h
  cases n with
  | nil => cases h1
  | cons c n =>
    have h1 : (isL c && decide (c ≠ 116)) = true := h1
    rw [Bool.and_eq_true] at h1
    exact ⟨⟨⟨c, rfl, h1.1⟩, List.all_eq_true.mp h2, of_decide_eq_true h3⟩, of_decide_eq_true h4, fun e => of_decide_eq_true h1.2 (Option.some.inj e)⟩
theorem bases_ok : ∀ b ∈ basesN, ∀ k, k < 12 → nmB (b ++ digs k) = true := by decide +kernel
theorem bases_ne : ∀ b ∈ basesN, ∀ c ∈ basesN, ∀ k, k < 12 → ∀ j, j < 12 → b ++ digs k = c ++ digs j → k = j := by decide +kernel
def MadeN (ss : List LS) : Prop := ∀ j s, ss[j]? = some s → ∃ b ∈ basesN, s.name = b ++ digs j
theorem new_ok {ss : List LS} {dn : Dn'} (w : Wf [] ss dn) (m : MadeN ss) (hl : ss.length < 12) {b : List Nat} (hb : b ∈ basesN) : NewOk [] dn (b ++ digs ss.length) := by
  obtain ⟨h1, h2, h3⟩ := nmB_ok (bases_ok b hb _ hl)
  refine ⟨h1, h2, fun e => h3 (by rw [e]; rfl), fun h => ?_, fun h => by cases h⟩
  rw [w.names] at h
  rcases List.mem_cons.mp h with h | h
  · exact h2 h
  · obtain ⟨s, hs, e⟩ := List.mem_map.mp h
    obtain ⟨j, hj⟩ := List.getElem?_of_mem hs
    obtain ⟨c, hc, ec⟩ := m j s hj
    have jl := (List.getElem?_eq_some_iff.mp hj).1
    have := bases_ne c hc b hb j (by omega) _ hl (by rw [← ec]; exact e)
    omega
theorem MadeN.snoc {ss : List LS} (m : MadeN ss) {s : LS} {b : List Nat} (hb : b ∈ basesN) (e : s.name = b ++ digs ss.length) : MadeN (ss ++ [s]) := fun j y h => by
  by_cases hj : j < ss.length
  · rw [List.getElem?_append_left hj] at h
    exact m j y h
  · have hl := (List.getElem?_eq_some_iff.mp h).1
    rw [List.length_append, List.length_singleton] at hl
    have ej : j = ss.length := by omega
    subst ej
    rw [List.getElem?_append_right (Nat.le_refl _), Nat.sub_self] at h
    cases h
    exact ⟨b, hb, e⟩
theorem lit_bases : [V.str ("a" : Str), .str "b", .str "step", .str "x1", .str "y", .str "q7"] = basesN.map fun n => V.str (Tx n) := by decide +kernel
def signs10 : List (List Nat) := [[43], [45], [42], [62], [62], [38], [60], [], [43], [42]]
theorem lit_signs : [V.str ("+" : Str), .str "-", .str "*", .str ">", .str ">", .str "&", .str "<", .str "", .str "+", .str "*"] = signs10.map fun n => V.str (Tx n) := by decide +kernel
theorem bases_len : ∀ b ∈ basesN, b.length ≤ 4 := by decide
theorem digs_len12 : ∀ i, i < 12 → (digs i).length ≤ 2 := by decide +kernel
theorem lg_small {z : Int} (h : z.natAbs < 1024) : z.natAbs.log2 < 10 := by
  by_cases h0 : z.natAbs = 0
  · rw [h0]; decide
  · exact (Nat.log2_lt h0).mpr h
/-- what the loose text and the run ask of a step -/
def StFit (s : LS) : Prop := LsSz s ∧ NmO s.one ∧ NmO s.oth ∧ s.name.length ≤ 8 ∧ (opX s.sign).filter (· != 32) = opX s.sign
def spProg : Sp := fun vs H Q _ => ∃ (p lc : Addr) (B : Int) (n : Nat), vs = [.ref p, .int n, .int 60, .int 4] ∧ Pen H p lc B ∧ B ≤ 100000 ∧ 1 ≤ n ∧ n ≤ 12 ∧
  ∀ (l : Addr) (rs : List Addr) (ss : List LS) (dn : Dn') (H' : Hp), H' l = some (.lst (rs.map V.ref)) → All2 (LsAt H') rs ss → Wf [] ss dn → MadeN ss → ss.length = n → (∀ s ∈ ss, StFit s) → l ≠ p → H l = none → Kp p H H' → Pen H' p lc (B + 1000) → Q (.ref l) H'
def signsN : List (List Nat) := [[43], [45], [42], [62], [38], [60], []]
theorem in_cut : ∀ sg ∈ signsN, inV (V.str (Tx sg)) [V.str (">" : Str), V.str "&"] = decide (sg = [62] ∨ sg = [38]) := by decide +kernel
theorem in_pm : ∀ sg ∈ signsN, inV (V.str (Tx sg)) [V.str ("+" : Str), V.str "-"] = decide (sg = [43] ∨ sg = [45]) := by decide +kernel
theorem in_pmt : ∀ sg ∈ signsN, inV (V.str (Tx sg)) [V.str ("+" : Str), V.str "-", V.str "*"] = decide (sg = [43] ∨ sg = [45] ∨ sg = [42]) := by decide +kernel
/-- what is chosen beside the first operand, its degree and its room -/
inductive Chosen (dn : Dn') (d1 d2 : Nat) (room : Int) (o2 : LOp) : List Nat → LOp → Prop
  | add {sg : List Nat} : sg = [43] ∨ sg = [45] → Chosen dn d1 d2 room o2 sg o2
  | mul : 1 ≤ d1 + d2 → d1 + d2 ≤ 4 → Chosen dn d1 d2 room o2 [42] o2
  | cut {sg : List Nat} {k : Nat} : sg = [62] ∨ sg = [38] → k ≤ 4 → (k : Int) ≤ room → Chosen dn d1 d2 room o2 sg (.nu k)
  | up {k : Nat} : k ≤ 4 → Chosen dn d1 d2 room o2 [60] (.nu k)
  | same : Chosen dn d1 d2 room o2 [] o2
structure DisP (H0 : Hp) (p lc l1 d1 d2 l3 : Addr) : Prop where
  n1 : H0 l1 = none
  n2 : H0 d1 = none
  n3 : H0 d2 = none
  n4 : H0 l3 = none
  e12 : l1 ≠ d1
  e13 : l1 ≠ d2
  e14 : l1 ≠ l3
  e23 : d1 ≠ d2
  e24 : d1 ≠ l3
  e34 : d2 ≠ l3
  p : ∃ o, H0 p = some o
  lc : ∃ o, H0 lc = some o
theorem DisP.np {H0 : Hp} {p lc l1 d1 d2 l3 a : Addr} (D : DisP H0 p lc l1 d1 d2 l3) (h : H0 a = none) : a ≠ p ∧ a ≠ lc := by
  obtain ⟨o, e⟩ := D.p
  obtain ⟨u, g⟩ := D.lc
  exact ⟨(fun z => by rw [z, e] at h; cases h), (fun z => by rw [z, g] at h; cases h)⟩
theorem Pen.upd {H : Hp} {p l a : Addr} {B : Int} {o : HO} (h : Pen H p l B) (h1 : a ≠ p) (h2 : a ≠ l) : Pen (upd H a o) p l B := by
  obtain ⟨ns, x, d, c, f, ⟨g1, g2, g3⟩, h⟩ := h
  exact ⟨ns, x, d, c, f, ⟨by rw [upd_ne (fun z => h1 z.symm)]; exact g1, by rw [upd_ne (fun z => h2 z.symm)]; exact g2, g3⟩, h⟩
theorem All2.lsUpd {H : Hp} {a : Addr} {o o' : HO} {rs : List Addr} {ss : List LS} (h : All2 (LsAt H) rs ss) (ha : H a = some o) (nt : ∀ xs, o ≠ .tup xs) : All2 (LsAt (upd H a o')) rs ss :=
  h.imp fun r x e => by
    have e : H r = some (.tup [.str (Tx x.name), .str (Tx x.sign), loV x.one, loV x.oth]) := e
    show upd H a o' r = _
    rw [upd_ne (fun z => by rw [z, ha] at e; exact nt _ (Option.some.inj e))]
    exact e
structure StP (H0 : Hp) (p lc l1 d1 d2 l3 : Addr) (H : Hp) (rs : List Addr) (ss : List LS) (kh kv : List (Key × V)) (nn : List V) (B : Int) : Prop where
  a1 : H l1 = some (.lst (rs.map V.ref))
  al : All2 (LsAt H) rs ss
  a2 : H d1 = some (.dK kh)
  a3 : H d2 = some (.dK kv)
  a4 : H l3 = some (.lst nn)
  k : Kp p H0 H
  pe : Pen H p lc B
section
variable {H0 : Hp} {p lc l1 d1 d2 l3 : Addr} {H H' : Hp} {rs : List Addr} {ss : List LS} {kh kv : List (Key × V)} {nn : List V} {B : Int}
theorem StP.same (h : StP H0 p lc l1 d1 d2 l3 H rs ss kh kv nn B) (s : Same H H') : StP H0 p lc l1 d1 d2 l3 H' rs ss kh kv nn B :=
  ⟨s _ _ h.a1, h.al.imp fun r x e => s _ _ e, s _ _ h.a2, s _ _ h.a3, s _ _ h.a4, h.k.trans (Kp.of s), h.pe.same s⟩
theorem kpn_upd {a : Addr} {o : HO} (k : Kp p H0 H) (h : H0 a = none) : Kp p H0 (upd H a o) := fun b u nb e => by
  rw [upd_ne (fun z => by rw [z, h] at e; cases e)]
  exact k b u nb e
theorem StP.put1 (D : DisP H0 p lc l1 d1 d2 l3) (h : StP H0 p lc l1 d1 d2 l3 H rs ss kh kv nn B) {r : Addr} {s : LS} (e : LsAt H r s) : StP H0 p lc l1 d1 d2 l3 (upd H l1 (.lst (rs.map V.ref ++ [V.ref r]))) (rs ++ [r]) (ss ++ [s]) kh kv nn B where
  a1 := by rw [List.map_append]; exact upd_same
  al := (h.al.snoc e).lsUpd h.a1 (fun xs z => by cases z)
  a2 := by rw [upd_ne D.e12.symm]; exact h.a2
  a3 := by rw [upd_ne D.e13.symm]; exact h.a3
  a4 := by rw [upd_ne D.e14.symm]; exact h.a4
  k := kpn_upd h.k D.n1
  pe := h.pe.upd (D.np D.n1).1 (D.np D.n1).2
theorem StP.put2 (D : DisP H0 p lc l1 d1 d2 l3) (h : StP H0 p lc l1 d1 d2 l3 H rs ss kh kv nn B) {kh' : List (Key × V)} : StP H0 p lc l1 d1 d2 l3 (upd H d1 (.dK kh')) rs ss kh' kv nn B where
  a1 := by rw [upd_ne D.e12]; exact h.a1
  al := h.al.lsUpd h.a2 (fun xs z => by cases z)
  a2 := upd_same
  a3 := by rw [upd_ne D.e23.symm]; exact h.a3
  a4 := by rw [upd_ne D.e24.symm]; exact h.a4
  k := kpn_upd h.k D.n2
  pe := h.pe.upd (D.np D.n2).1 (D.np D.n2).2
theorem StP.put3 (D : DisP H0 p lc l1 d1 d2 l3) (h : StP H0 p lc l1 d1 d2 l3 H rs ss kh kv nn B) {kv' : List (Key × V)} : StP H0 p lc l1 d1 d2 l3 (upd H d2 (.dK kv')) rs ss kh kv' nn B where
  a1 := by rw [upd_ne D.e13]; exact h.a1
  al := h.al.lsUpd h.a3 (fun xs z => by cases z)
  a2 := by rw [upd_ne D.e23]; exact h.a2
  a3 := upd_same
  a4 := by rw [upd_ne D.e34.symm]; exact h.a4
  k := kpn_upd h.k D.n3
  pe := h.pe.upd (D.np D.n3).1 (D.np D.n3).2
theorem StP.put4 (D : DisP H0 p lc l1 d1 d2 l3) (h : StP H0 p lc l1 d1 d2 l3 H rs ss kh kv nn B) {nn' : List V} : StP H0 p lc l1 d1 d2 l3 (upd H l3 (.lst nn')) rs ss kh kv nn' B where
  a1 := by rw [upd_ne D.e14]; exact h.a1
  al := h.al.lsUpd h.a4 (fun xs z => by cases z)
  a2 := by rw [upd_ne D.e24]; exact h.a2
  a3 := by rw [upd_ne D.e34]; exact h.a3
  a4 := upd_same
  k := kpn_upd h.k D.n4
  pe := h.pe.upd (D.np D.n4).1 (D.np D.n4).2
end
theorem dK_ext {dn : Dn'} {n : List Nat} {o : LOp} {d : Nat} {x : V} (nd : n ∉ dn.map (·.1)) (ok : OpOk dn o d) (v : (valV (dK' dn) (loKey o)).getD (.int 0) = .int d) : (valV (dK' dn ++ [(.inr (Tx n), x)]) (loKey o)).getD (.int 0) = .int d := by
  rw [valV_snoc _ _ _ _ (dK_no nd), if_neg]
  · exact v
  · intro e
    cases o with
    | nu z => cases e
    | nm m => exact nd (by rw [← tx_inj (Sum.inr.inj e)]; exact ok.1)
theorem sg_fit : ∀ sg ∈ signsN, sg.length ≤ 2 ∧ (opX sg).filter (· != 32) = opX sg := by decide +kernel
theorem Chosen.fit {dn : Dn'} {d1 d2 : Nat} {room : Int} {o2 o3 : LOp} {sg : List Nat} (c : Chosen dn d1 d2 room o2 sg o3) (h1 : NmO o2) (h2 : LoSz o2) : NmO o3 ∧ LoSz o3 := by
  cases c with
  | add _ => exact ⟨h1, h2⟩
  | mul _ _ => exact ⟨h1, h2⟩
  | @cut _ k _ h _ =>
    refine ⟨trivial, ?_⟩
    show ((k : Nat) : Int).natAbs < 2 ^ 97
    have : (4 : Nat) < 2 ^ 97 := by decide
    omega
  | @up k h =>
    refine ⟨trivial, ?_⟩
    show ((k : Nat) : Int).natAbs < 2 ^ 97
    have : (4 : Nat) < 2 ^ 97 := by decide
    omega
  | same => exact ⟨h1, h2⟩
theorem Chosen.step {dn : Dn'} {d1 d2 : Nat} {room : Int} {o1 o2 o3 : LOp} {sg n : List Nat} (c : Chosen dn d1 d2 room o2 sg o3) (ok1 : OpOk dn o1 d1) (ok2 : OpOk dn o2 d2) {dg : Nat} (h1 : sg = [42] → dg = d1 + d2) (h2 : sg = [43] ∨ sg = [45] → dg = max d1 d2) (h3 : sg ≠ [42] → ¬ (sg = [43] ∨ sg = [45]) → dg = d1) : StepOk [] dn ⟨n, sg, o1, o3⟩ dg := by
  cases c with
  | add h => rw [h2 h]; exact .add h ok1 ok2 rfl
  | mul a b => rw [h1 rfl]; exact .mul rfl ok1 ok2 rfl a b
  | @cut _ k h a b =>
    have e : dg = d1 := h3 (fun z => by rcases h with h | h <;> rw [h] at z <;> cases z) (fun z => by rcases h with h | h <;> rw [h] at z <;> rcases z with z | z <;> cases z)
    rw [e]
    exact .cut (k := k) (h.elim .inl fun z => .inr (.inr z)) ok1 rfl a
  | @up k a =>
    have e : dg = d1 := h3 (fun z => by cases z) (fun z => by rcases z with z | z <;> cases z)
    rw [e]
    exact .cut (k := k) (.inr (.inl rfl)) ok1 rfl a
  | same =>
    have e : dg = d1 := h3 (fun z => by cases z) (fun z => by rcases z with z | z <;> cases z)
    rw [e]
    exact .same rfl ok1
theorem max_i {m a b : Int} (h : m ∈ [a, b]) (g : ∀ y, y ∈ [a, b] → y ≤ m) : m = max a b := by
  have h1 := g a (by simp)
  have h2 := g b (by simp)
  have : m = a ∨ m = b := by simpa using h
  omega
section
variable {P : Program} {w : World} {K : PySem.W.Frag} {mg : Str → Option Value} {base : Heap} {CT CA CL CN NO CP CW : Addr}
abbrev sProgL : Stmt := topS 42
theorem scProgL : FnScope ["_law_pen_here", "_law_many", "_law_budget", "_law_degree", "_law_steps", "_law_hang", "_law_high", "_law_names", "_law_k", "_law_name", "_law_sign", "_law_one", "_law_other", "_law_room", "_law_top", "_law_both"] ["_law_pen_here", "_law_many", "_law_budget", "_law_degree"] (defScope sProgL) := ⟨rfl, rfl, rfl, by decide +kernel, rfl, by decide +kernel, by decide +kernel⟩
theorem ok_prog {f : Addr} {fd : FuncData} (F : Fun K "_law_program" "_law_program" sProgL f fd) (T : Bk mg) (hmax : mg "max" = none) (hmin : mg "min" = none) (hm1 : M1 base) (G__law_draw : Df P w K mg base "_law_draw" 1 ["_law_pen_here", "_law_many"] spDraw) (G__law_pick : Df P w K mg base "_law_pick" 2 ["_law_pen_here", "_law_some"] spPick) (G__law_operand : Df P w K mg base "_law_operand" 3 ["_law_pen_here", "_law_names"] spOper) : FnOk P w K mg base CX0 4 f fd ["_law_pen_here", "_law_many", "_law_budget", "_law_degree"] spProg := by
  refine F.ok scProgL (fun vs H Q E h => ?_) (fun cdv A outer s H vs Q E hr h => ?_)
  · obtain ⟨p, lc, B, n, rfl, _⟩ := h
    rfl
  · obtain ⟨p, lc, B, n, rfl, hP, hB, n1, n12, q⟩ := h
    refine ⟨_, (pss_cons (ps_asg (pe_tup (pa_cons (pe_lst pa_nil) (pa_cons (pe_disp (pps_cons pe_str pe_int pps_nil) (by rfl) (by rfl) (fun z => by cases z) (by decide)) (pa_cons (pe_disp (pps_cons pe_str pe_int pps_nil) (by rfl) (by rfl) (fun z => by cases z) (by decide)) (pa_cons (pe_lst (pa_cons pe_str pa_nil)) pa_nil))))) (pg_tup (by rfl) (pgs_cons (pg_name (i := 4) scProgL.nd rfl (Or.inl rfl)) (pgs_cons (pg_name (i := 5) scProgL.nd rfl (Or.inl rfl)) (pgs_cons (pg_name (i := 6) scProgL.nd rfl (Or.inl rfl)) (pgs_cons (pg_name (i := 7) scProgL.nd rfl (Or.inl rfl)) pgs_nil))))))
  (pss_cons (ps_for PassesOwn.never rfl (pi_range1 (by rfl) T.range (pa_cons (pv 1) pa_nil)) (pg_name (i := 8) scProgL.nd rfl (Or.inl rfl))
    (pss_cons (ps_set (i := 9) scProgL.nd rfl (Or.inl rfl) (pe_op op_add_str (pe_call G__law_pick.ok (hr.mono (by decide)) rfl G__law_pick.m G__law_pick.kp G__law_pick.b .nil pass0 (pa_cons (pv 0) (pa_cons (pe_lst (pa_cons pe_str (pa_cons pe_str (pa_cons pe_str (pa_cons pe_str (pa_cons pe_str (pa_cons pe_str pa_nil))))))) pa_nil))) (pe_callTy call_str_int (by rfl) T.str (by decide +kernel) (pa_cons (pv 8) pa_nil))))
    (pss_cons (ps_set (i := 10) scProgL.nd rfl (Or.inl rfl) (pe_call G__law_pick.ok (hr.mono (by decide)) rfl G__law_pick.m G__law_pick.kp G__law_pick.b .nil pass0 (pa_cons (pv 0) (pa_cons (pe_lst (pa_cons pe_str (pa_cons pe_str (pa_cons pe_str (pa_cons pe_str (pa_cons pe_str (pa_cons pe_str (pa_cons pe_str (pa_cons pe_str (pa_cons pe_str (pa_cons pe_str pa_nil))))))))))) pa_nil))))
    (pss_cons (ps_par (i := 11) (j := 12) (by rfl) scProgL.nd rfl rfl (by decide) rfl rfl (pa_cons (pe_call G__law_operand.ok (hr.mono (by decide)) rfl G__law_operand.m G__law_operand.kp G__law_operand.b .nil pass0 (pa_cons (pv 0) (pa_cons (pv 7) pa_nil))) (pa_cons (pe_call G__law_operand.ok (hr.mono (by decide)) rfl G__law_operand.m G__law_operand.kp G__law_operand.b .nil pass0 (pa_cons (pv 0) (pa_cons (pv 7) pa_nil))) pa_nil)) (by rfl))
    (pss_cons (ps_par (i := 13) (j := 14) (by rfl) scProgL.nd rfl rfl (by decide) rfl rfl (pa_cons (pe_op op_sub (pv 2) (pe_dget2 (hu1 hr.units) (pv 5) (pv 11) pe_int ⟨by rfl, by rfl, by rfl, by rfl⟩)) (pa_cons (pe_op op_add (pe_dget2 (hu1 hr.units) (pv 6) (pv 11) pe_int ⟨by rfl, by rfl, by rfl, by rfl⟩) (pe_dget2 (hu1 hr.units) (pv 6) (pv 12) pe_int ⟨by rfl, by rfl, by rfl, by rfl⟩)) pa_nil)) (by rfl))
    (C8.pss_cut (ps_if (PW.pt (pw_and (pt_cmpR op_eq (pv 10) pe_str (nomark _)) (pw_and1 (PW.pt (pw_or (pt_cmpR op_gt (pv 14) (pv 3) (nomark _)) (pw_or1 (pt_cmpR op_eq (pv 14) pe_int (nomark _))))))))
      (pss_one (ps_set (i := 10) scProgL.nd rfl (Or.inl rfl) pe_str))
      pss_nil)
    (C8.pss_cut (ps_if (pt_cmpR op_in_seq (pv 10) (pe_lst (pa_cons pe_str (pa_cons pe_str pa_nil))) (by rfl))
      (pss_one (ps_set (i := 12) scProgL.nd rfl (Or.inl rfl) (pe_call G__law_draw.ok (hr.mono (by decide)) rfl G__law_draw.m G__law_draw.kp G__law_draw.b .nil pass0 (pa_cons (pv 0) (pa_cons (pe_op op_add (pe_callB (cr_min rfl) (by rfl) hmin (by decide +kernel) (pa_cons (pe_lst (pa_cons (pv 13) (pa_cons pe_int pa_nil))) pa_nil)) pe_int) pa_nil)))))
      pss_nil)
    (C8.pss_cut (ps_if (pt_cmpR op_eq (pv 10) pe_str (nomark _))
      (pss_one (ps_set (i := 12) scProgL.nd rfl (Or.inl rfl) (pe_call G__law_draw.ok (hr.mono (by decide)) rfl G__law_draw.m G__law_draw.kp G__law_draw.b .nil pass0 (pa_cons (pv 0) (pa_cons pe_int pa_nil)))))
      pss_nil)
    (pss_cons (ps_expr (pe_bm PySem.F.plainAttrs_list PySem.F.slot_list_append PySem.F.type_list_append mt_append (pv 4) (pa_cons (pe_tup (pa_cons (pv 9) (pa_cons (pv 10) (pa_cons (pv 11) (pa_cons (pv 12) pa_nil))))) pa_nil)))
    (C8.pss_cut (ps_set (i := 15) scProgL.nd rfl (Or.inl rfl) (pe_ifExp (pt_cmpR op_in_seq (pv 10) (pe_lst (pa_cons pe_str (pa_cons pe_str (pa_cons pe_str pa_nil)))) (by rfl)) (pe_callB (cr_max rfl) (by rfl) hmax (by decide +kernel) (pa_cons (pe_lst (pa_cons (pe_dget2 (hu1 hr.units) (pv 5) (pv 11) pe_int ⟨by rfl, by rfl, by rfl, by rfl⟩) (pa_cons (pe_dget2 (hu1 hr.units) (pv 5) (pv 12) pe_int ⟨by rfl, by rfl, by rfl, by rfl⟩) pa_nil))) pa_nil)) (pe_dget2 (hu1 hr.units) (pv 5) (pv 11) pe_int ⟨by rfl, by rfl, by rfl, by rfl⟩)))
    (C8.pss_cut (ps_dput (hu1 hr.units) (pv 5) (pv 9) (pe_op op_add (pv 15) (pe_ifExp (pt_cmpR op_in_seq (pv 10) (pe_lst (pa_cons pe_str (pa_cons pe_str pa_nil))) (by rfl)) (pv 12) pe_int)) (by rfl))
    (pss_cons (ps_dput (hu1 hr.units) (pv 6) (pv 9) (pe_dget2 (hu1 hr.units) (pv 6) (pv 11) pe_int ⟨by rfl, by rfl, by rfl, by rfl⟩) (by rfl))
    (C8.pss_cut (ps_if (pt_cmpR op_in_seq (pv 10) (pe_lst (pa_cons pe_str (pa_cons pe_str pa_nil))) (by rfl))
      (pss_one (ps_dput (hu1 hr.units) (pv 6) (pv 9) (pe_callB (cr_max rfl) (by rfl) hmax (by decide +kernel) (pa_cons (pe_lst (pa_cons (pe_dget2 (hu1 hr.units) (pv 6) (pv 11) pe_int ⟨by rfl, by rfl, by rfl, by rfl⟩) (pa_cons (pe_dget2 (hu1 hr.units) (pv 6) (pv 12) pe_int ⟨by rfl, by rfl, by rfl, by rfl⟩) pa_nil))) pa_nil)) (by rfl)))
      pss_nil)
    (C8.pss_cut (ps_if (pt_cmpR op_eq (pv 10) pe_str (nomark _))
      (pss_one (ps_dput (hu1 hr.units) (pv 6) (pv 9) (pv 14) (by rfl)))
      pss_nil)
    (pss_one (ps_expr (pe_bm PySem.F.plainAttrs_list PySem.F.slot_list_append PySem.F.type_list_append mt_append (pv 7) (pa_cons (pv 9) pa_nil))))))))))))))))))
  (pss_one (ps_ret (pv 4))))), ?_⟩
    refine ⟨(by show 0 ≤ sizeLine; decide), fun l1 nl1 => ?_⟩
    have s1 := same_upd (o := HO.lst []) nl1
    have e1 : upd H l1 (HO.lst []) l1 = some (HO.lst []) := upd_same
    generalize upd H l1 (HO.lst []) = H1 at s1 e1 ⊢
    have em0 : mergeK [] [((.inr ("x" : Str) : Key), V.int 0)] = [(.inr (Tx [120]), V.int 0)] := by rw [lit_x]; rfl
    have em1 : mergeK [] [((.inr ("x" : Str) : Key), V.int 1)] = dK' [([120], 1)] := by rw [lit_x]; rfl
    refine fun d1 nd1 => ⟨upd_same, [(.inr ("x" : Str), .int 0)], rfl, (by show 1 ≤ 15; decide), ?_⟩
    rw [em0]
    have ed1 : upd (upd H1 d1 (HO.dK [])) d1 (HO.dK [(.inr (Tx [120]), V.int 0)]) d1 = some (HO.dK [(.inr (Tx [120]), V.int 0)]) := upd_same
    have s2 : Same H1 (upd (upd H1 d1 (HO.dK [])) d1 (HO.dK [(.inr (Tx [120]), V.int 0)])) := fun b o e => by
      rw [upd_ne (ne_of_none e nd1), upd_ne (ne_of_none e nd1)]
      exact e
    generalize upd (upd H1 d1 (HO.dK [])) d1 (HO.dK [(.inr (Tx [120]), V.int 0)]) = H2 at ed1 s2 ⊢
    refine fun d2 nd2 => ⟨upd_same, [(.inr ("x" : Str), .int 1)], rfl, (by show 1 ≤ 15; decide), ?_⟩
    rw [em1]
    have ed2 : upd (upd H2 d2 (HO.dK [])) d2 (HO.dK (dK' [([120], 1)])) d2 = some (HO.dK (dK' [([120], 1)])) := upd_same
    have s3 : Same H2 (upd (upd H2 d2 (HO.dK [])) d2 (HO.dK (dK' [([120], 1)]))) := fun b o e => by
      rw [upd_ne (ne_of_none e nd2), upd_ne (ne_of_none e nd2)]
      exact e
    generalize upd (upd H2 d2 (HO.dK [])) d2 (HO.dK (dK' [([120], 1)])) = H3 at ed2 s3 ⊢
    refine ⟨(by show 1 ≤ sizeLine; decide), fun l3 nl3 => ?_⟩
    have e3 : upd H3 l3 (HO.lst [V.str "x"]) l3 = some (HO.lst ([[120]].map fun n => V.str (Tx n))) := by rw [lit_x]; exact upd_same
    have s4 : Same H3 (upd H3 l3 (HO.lst [V.str "x"])) := same_upd nl3
    generalize upd H3 l3 (HO.lst [V.str "x"]) = H4 at e3 s4 ⊢
    refine ⟨(by show 4 ≤ sizeLine; decide), fun tt ntt => ?_⟩
    have et : upd H4 tt (HO.tup [V.ref l1, .ref d1, .ref d2, .ref l3]) tt = some (HO.tup [V.ref l1, .ref d1, .ref d2, .ref l3]) := upd_same
    have s5 : Same H4 (upd H4 tt (HO.tup [V.ref l1, .ref d1, .ref d2, .ref l3])) := same_upd ntt
    generalize upd H4 tt (HO.tup [V.ref l1, .ref d1, .ref d2, .ref l3]) = H5 at et s5 ⊢
    refine ⟨tt, _, rfl, SqT.of et, rfl, _, _, rfl, _, _, rfl, _, _, rfl, _, _, rfl, rfl, ?_⟩
    have s15 := ((s2.trans s3).trans s4).trans s5
    have f1 : H5 l1 = some (.lst []) := s15 _ _ e1
    have f2 : H5 d1 = some (.dK [(.inr (Tx [120]), V.int 0)]) := ((s3.trans s4).trans s5) _ _ ed1
    have f3 : H5 d2 = some (.dK (dK' [([120], 1)])) := (s4.trans s5) _ _ ed2
    have f4 : H5 l3 = some (.lst ([[120]].map fun n => V.str (Tx n))) := s5 _ _ e3
    have sH : Same H H5 := s1.trans s15
    have hd1 : H d1 = none := s1.free nd1
    have hd2 : H d2 = none := (s1.trans s2).free nd2
    have hl3 : H l3 = none := ((s1.trans s2).trans s3).free nl3
    have ne12 : l1 ≠ d1 := fun e => by rw [e, nd1] at e1; cases e1
    have pn : ∀ a, H a = none → a ≠ p := fun a ha e => by
      obtain ⟨o, h⟩ := hP.there
      rw [e, h] at ha
      cases ha
    have ne13 : l1 ≠ d2 := fun e => by rw [e, s2.free nd2] at e1; cases e1
    have ne14 : l1 ≠ l3 := fun e => by rw [e, (s2.trans s3).free nl3] at e1; cases e1
    have ne23 : d1 ≠ d2 := fun e => by rw [e, nd2] at ed1; cases ed1
    have ne24 : d1 ≠ l3 := fun e => by rw [e, s3.free nl3] at ed1; cases ed1
    have ne34 : d2 ≠ l3 := fun e => by rw [e, nl3] at ed2; cases ed2
    refine ⟨_, rfl, _, rfl, by omega, by omega, for_range (lo := 0) (n := ((n : Nat) : Int).toNat) (fun i σ H6 => ∃ (rs : List Addr) (ss : List LS) (dn : Dn') (kh : List (Key × V)) (v8 v9 v10 v11 v12 v13 v14 v15 : Option V), σ = [some (.ref p), some (.int n), some (.int 60), some (.int 4), some (.ref l1), some (.ref d1), some (.ref d2), some (.ref l3), v8, v9, v10, v11, v12, v13, v14, v15] ∧
        H6 l1 = some (.lst (rs.map V.ref)) ∧ All2 (LsAt H6) rs ss ∧ Wf [] ss dn ∧ MadeN ss ∧ ss.length = i ∧ (∀ s ∈ ss, StFit s) ∧ H6 d1 = some (.dK kh) ∧ HgOk kh ∧ kh.length ≤ i + 1 ∧ H6 d2 = some (.dK (dK' dn)) ∧ H6 l3 = some (.lst ((dn.map (·.1)).map fun n => V.str (Tx n))) ∧ Kp p H H6 ∧ Pen H6 p lc (B + 20 * i))
      ⟨[], [], [([120], 1)], _, none, none, none, none, none, none, none, none, rfl, f1, .nil, .nil, (fun j s h => by cases h), rfl, (fun s h => by cases h), f2, ?_, Nat.le_refl _, f3, f4, Kp.of sH, (hP.same sH).more (by omega)⟩ ?_ ?_⟩
    · intro k v e
      by_cases hk : (Sum.inr (Tx [120]) : Key) = k
      · rw [valV_pos (p := ((Sum.inr (Tx [120]) : Key), V.int 0)) hk] at e
        cases e
        exact ⟨0, rfl, by decide, by decide⟩
      · rw [valV_neg (p := ((Sum.inr (Tx [120]) : Key), V.int 0)) hk] at e
        cases e
    · rintro i σ H6 hi ⟨rs, ss, dn, kh, v8, v9, v10, v11, v12, v13, v14, v15, rfl, a1, all, wf, mdn, sl, fit, a2, hg, hgl, a3, a4, k6, p6⟩
      have i12 : i < 12 := by omega
      have d4 := wf.d4
      have nms := wf.nm
      refine ⟨_, rfl, (by show 6 ≤ sizeLine; decide), fun D nD => ?_⟩
      have pD := p6.same (same_upd (o := HO.lst [V.str "a", .str "b", .str "step", .str "x1", .str "y", .str "q7"]) nD)
      have pnD : ∀ {H' : Hp} {B' : Int} {D : Addr}, Pen H' p lc B' → H' D = none → D ≠ p := fun hP nD e => by
        obtain ⟨o, h⟩ := hP.there
        rw [e, h] at nD
        cases nD
      refine ⟨p, lc, D, _, _, rfl, pD, by omega, upd_same, pnD p6 nD, (by show 0 < 6; decide), (by show 6 < 1000000; decide), fun y H7 hy p7 k7 => ?_⟩
      have k67 : Kp p H6 H7 := (Kp.of (same_upd nD)).trans k7
      clear k7 pD
      obtain ⟨b, hb, rfl⟩ : ∃ b ∈ basesN, y = V.str (Tx b) := by
        rw [lit_bases] at hy
        obtain ⟨b, hb, e⟩ := List.mem_map.mp hy
        exact ⟨b, hb, e.symm⟩
      have bl := bases_len b hb
      refine ⟨_, rfl, _, rfl, (Nat.lt_trans (lg_small (by omega)) (by decide)), ?_⟩
      rw [show ((0 : Int) + (i : Int)) = ((i : Nat) : Int) by omega, digs_tx i]
      have dl := digs_len12 i i12
      refine ⟨_, _, rfl, rfl, tx_cat (n := 0) _ _ (by omega), ?_⟩
      rw [tx_app]
      refine ⟨_, rfl, (by show 10 ≤ sizeLine; decide), fun D2 nD2 => ?_⟩
      refine ⟨p, lc, D2, _, _, rfl, p7.same (same_upd nD2), by omega, upd_same, pnD p7 nD2, (by show 0 < 10; decide), (by show 10 < 1000000; decide), fun y H8 hy p8 k8 => ?_⟩
      have k68 : Kp p H6 H8 := k67.trans ((Kp.of (same_upd nD2)).trans k8)
      clear k8
      obtain ⟨sg, hsg, rfl⟩ : ∃ sg ∈ signsN, y = V.str (Tx sg) := by
        rw [lit_signs] at hy
        obtain ⟨sg, hsg, e⟩ := List.mem_map.mp hy
        refine ⟨sg, ?_, e.symm⟩
        simp only [signs10, List.mem_cons, List.not_mem_nil, or_false] at hsg
        simp only [signsN, List.mem_cons, List.not_mem_nil, or_false]
        rcases hsg with h | h | h | h | h | h | h | h | h | h <;> simp [h]
      have l3p : l3 ≠ p := pn _ hl3
      have l1p : l1 ≠ p := pn _ nl1
      have d1p : d1 ≠ p := pn _ hd1
      have d2p : d2 ≠ p := pn _ hd2
      have nl100 : (dn.map (·.1)).length ≤ 100 := by rw [List.length_map, wf.len]; omega
      refine ⟨_, rfl, _, rfl, p, lc, l3, _, _, rfl, p8, by omega, l3p, k68 _ _ l3p a4, nl100, fun o1 H9 ho1 k9 p9 => ?_⟩
      have k69 := k68.trans k9
      refine ⟨_, rfl, _, rfl, p, lc, l3, _, _, rfl, p9, by omega, l3p, k69 _ _ l3p a4, nl100, fun o2 H10 ho2 k10 p10 => ?_⟩
      have k610 := k69.trans k10
      obtain ⟨g1, g14, ok1, v1, nm1, z1⟩ := ho1.deg d4 nms
      obtain ⟨g2, g24, ok2, v2, nm2, z2⟩ := ho2.deg d4 nms
      obtain ⟨h1, hv1, h10, h160⟩ := hg.get (loKey o1)
      have b2 := k610 _ _ d1p a2
      have b3 := k610 _ _ d2p a3
      refine ⟨_, _, rfl, ?_⟩
      refine ⟨_, rfl, _, rfl, d1, rfl, .inl ⟨_, .inl b2⟩, _, rfl, _, (by rw [← loKey_v]; exact DGet.k b2), ?_⟩
      rw [hv1]
      refine ⟨_, _, rfl, rfl, ?_⟩
      refine ⟨_, rfl, d2, rfl, .inl ⟨_, .inl b3⟩, _, rfl, _, (by rw [← loKey_v]; exact DGet.k b3), ?_⟩
      rw [v1]
      refine ⟨_, rfl, d2, rfl, .inl ⟨_, .inl b3⟩, _, rfl, _, (by rw [← loKey_v]; exact DGet.k b3), ?_⟩
      rw [v2]
      refine ⟨_, _, rfl, rfl, ?_⟩
      refine ⟨_, _, rfl, ?_⟩
      refine ⟨fun σ' H' => ∃ sg', σ' = [some (.ref p), some (.int n), some (.int 60), some (.int 4), some (.ref l1), some (.ref d1), some (.ref d2), some (.ref l3), some (.int i), some (.str (Tx (b ++ digs i))), some (.str (Tx sg')), some (loV o1), some (loV o2), some (.int (60 - h1)), some (.int (g1 + g2)), v15] ∧ sg' ∈ signsN ∧ (sg' = [42] → 1 ≤ g1 + g2 ∧ g1 + g2 ≤ 4) ∧ H' = H10, ?_, ?_⟩
      · refine ⟨_, rfl, rfl, _, rfl, ?_⟩
        rw [lit_star, tx_eq]
        by_cases h42 : sg = [42]
        · rw [decide_eq_true h42]
          refine iteT ?_
          refine ⟨_, rfl, _, rfl, _, _, rfl, rfl, _, rfl, ?_⟩
          by_cases ht : ((g1 : Int) + (g2 : Int)) > 4
          · rw [decide_eq_true ht]
            refine iteT ?_
            exact ⟨[43], by rw [lit_pls]; rfl, by decide, (fun z => by cases z), rfl⟩
          · rw [decide_eq_false ht]
            refine iteF ?_
            refine ⟨_, rfl, rfl, _, rfl, ?_⟩
            by_cases h0 : ((g1 : Int) + (g2 : Int)) = 0
            · rw [decide_eq_true (show V.int ((g1 : Int) + (g2 : Int)) = V.int 0 by rw [h0])]
              refine iteT ?_
              exact ⟨[43], by rw [lit_pls]; rfl, by decide, (fun z => by cases z), rfl⟩
            · rw [decide_eq_false (fun z => h0 (V.int.inj z))]
              refine iteF ?_
              exact ⟨sg, rfl, hsg, (fun _ => by omega), rfl⟩
        · rw [decide_eq_false h42]
          refine iteF ?_
          refine iteF ?_
          exact ⟨sg, rfl, hsg, (fun z => absurd z h42), rfl⟩
      rintro σ' H' ⟨sg', rfl, hsg', h42, rfl⟩
      refine ⟨fun σ' H' => ∃ o', σ' = [some (.ref p), some (.int n), some (.int 60), some (.int 4), some (.ref l1), some (.ref d1), some (.ref d2), some (.ref l3), some (.int i), some (.str (Tx (b ++ digs i))), some (.str (Tx sg')), some (loV o1), some (loV o'), some (.int (60 - h1)), some (.int (g1 + g2)), v15] ∧ ((sg' = [62] ∨ sg' = [38]) → ∃ k : Nat, o' = .nu k ∧ k ≤ 4 ∧ (k : Int) ≤ 60 - h1) ∧ (¬ (sg' = [62] ∨ sg' = [38]) → o' = o2) ∧ Kp p H6 H' ∧ Pen H' p lc (B + 20 * i + 11), ?_, ?_⟩
      · refine ⟨_, rfl, (by show 2 ≤ sizeLine; decide), fun lc1 nlc1 => ⟨lc1, _, rfl, .inl (SqL.of upd_same), rfl, rfl, _, congrArg V.bl (in_cut _ hsg'), ?_⟩⟩
        have kx := k610.trans (Kp.of (same_upd (o := HO.lst [V.str ">", .str "&"]) nlc1))
        have px := p10.same (same_upd (o := HO.lst [V.str ">", .str "&"]) nlc1)
        generalize upd H' lc1 (HO.lst [V.str ">", .str "&"]) = H11 at kx px ⊢
        by_cases hc : sg' = [62] ∨ sg' = [38]
        · rw [decide_eq_true hc]
          refine iteT ?_
          refine ⟨_, rfl, _, rfl, (by show 2 ≤ sizeLine; decide), fun lc2 nlc2 => ⟨lc2, [60 - h1, 4], rfl, SqL.of upd_same, Nat.succ_pos _, fun m hm hle => ?_⟩⟩
          have mb : m = 60 - h1 ∨ m = 4 := by simpa using hm
          have m1 := hle (60 - h1) (by simp)
          have m2 := hle 4 (by simp)
          refine ⟨_, _, rfl, rfl, p, lc, _, _, rfl, px.same (same_upd nlc2), by omega, by omega, by omega, fun y H12 y0 y1 p12 k12 => ?_⟩
          refine ⟨.nu y, rfl, fun _ => ⟨y.toNat, by rw [Int.toNat_of_nonneg y0], by omega, by omega⟩, fun z => absurd hc z, (kx.trans (Kp.of (same_upd nlc2))).trans k12, p12.more (by omega)⟩
        · rw [decide_eq_false hc]
          refine iteF ?_
          exact ⟨o2, rfl, fun z => absurd z hc, fun _ => rfl, kx, px.more (by omega)⟩
      clear p10
      rintro σ' H12 ⟨o', rfl, hcut, hno, k12, p12⟩
      refine ⟨fun σ' H' => ∃ o3, σ' = [some (.ref p), some (.int n), some (.int 60), some (.int 4), some (.ref l1), some (.ref d1), some (.ref d2), some (.ref l3), some (.int i), some (.str (Tx (b ++ digs i))), some (.str (Tx sg')), some (loV o1), some (loV o3), some (.int (60 - h1)), some (.int (g1 + g2)), v15] ∧ Chosen dn g1 g2 (60 - h1) o2 sg' o3 ∧ Kp p H6 H' ∧ Pen H' p lc (B + 20 * i + 12), ?_, ?_⟩
      · refine ⟨_, rfl, rfl, _, rfl, ?_⟩
        rw [lit_lt, tx_eq]
        by_cases h60 : sg' = [60]
        · rw [decide_eq_true h60]
          refine iteT ?_
          refine ⟨_, rfl, p, lc, _, 5, rfl, p12, by omega, by decide, by decide, fun y H13 y0 y1 p13 k13 => ?_⟩
          refine ⟨.nu y, rfl, ?_, k12.trans k13, p13.more (by omega)⟩
          rw [h60, show y = ((y.toNat : Nat) : Int) by omega]
          exact .up (by omega)
        · rw [decide_eq_false h60]
          refine iteF ?_
          refine ⟨o', rfl, ?_, k12, p12.more (by omega)⟩
          by_cases hc : sg' = [62] ∨ sg' = [38]
          · obtain ⟨k, rfl, hk1, hk2⟩ := hcut hc
            exact .cut hc hk1 hk2
          · rw [hno hc]
            simp only [signsN, List.mem_cons, List.not_mem_nil, or_false] at hsg'
            rcases hsg' with h | h | h | h | h | h | h
            · rw [h]; exact .add (.inl rfl)
            · rw [h]; exact .add (.inr rfl)
            · obtain ⟨x1, x2⟩ := h42 h
              rw [h]; exact .mul x1 x2
            · exact absurd (.inl h) hc
            · exact absurd (.inr h) hc
            · exact absurd h h60
            · rw [h]; exact .same
      rintro σ' H13 ⟨o3, rfl, cho, k13, p13⟩
      have Di : DisP H p lc l1 d1 d2 l3 := ⟨nl1, hd1, hd2, hl3, ne12, ne13, ne14, ne23, ne24, ne34, hP.there, by
        obtain ⟨ns, x, d, c, f, ⟨_, g2, _⟩, _⟩ := hP
        exact ⟨_, g2⟩⟩
      have tupK : ∀ r xs, H6 r = some (.tup xs) → H13 r = some (.tup xs) := fun r xs e => k13 _ _ (fun z => by
        obtain ⟨ns, x, d, c, f, ⟨g1, _⟩, _⟩ := p6
        rw [z, g1] at e
        cases e) e
      have S0 : StP H p lc l1 d1 d2 l3 H13 rs ss kh (dK' dn) ((dn.map (·.1)).map fun n => V.str (Tx n)) (B + 20 * i + 12) := ⟨k13 _ _ l1p a1, all.imp fun r x e => tupK _ _ e, k13 _ _ d1p a2, k13 _ _ d2p a3, k13 _ _ l3p a4, k6.trans k13, p13⟩
      have new := new_ok wf mdn (by omega) hb
      rw [sl] at new
      have dln : (dK' dn).length = i + 1 := by rw [dK', List.length_map, wf.len, sl]
      have rl : rs.length = i := by rw [all.len, sl]
      clear k13 p13 tupK k610 k69 k68 k67 p7 p8 p9
      refine ⟨_, rfl, .inl ⟨rfl, _, SqL.of S0.a1⟩, _, rfl, _, rfl, _, rfl, _, rfl, (by show 4 ≤ sizeLine; decide), fun tq ntq => ?_⟩
      have S1 := S0.same (same_upd (o := HO.tup [V.str (Tx (b ++ digs i)), .str (Tx sg'), loV o1, loV o3]) ntq)
      refine ⟨l1, _, _, rfl, rfl, S1.a1, (by rw [List.length_map, rl, sizeLine_eq]; omega), ?_⟩
      have S2 := S1.put1 Di (r := tq) (s := ⟨b ++ digs i, sg', o1, o3⟩) upd_same
      clear S0 S1
      generalize upd (upd H13 tq (HO.tup [V.str (Tx (b ++ digs i)), V.str (Tx sg'), loV o1, loV o3])) l1 (HO.lst (List.map V.ref rs ++ [V.ref tq])) = H14 at S2 ⊢
      refine ⟨fun σ' H' => ∃ hb : Int, σ' = [some (.ref p), some (.int n), some (.int 60), some (.int 4), some (.ref l1), some (.ref d1), some (.ref d2), some (.ref l3), some (.int i), some (.str (Tx (b ++ digs i))), some (.str (Tx sg')), some (loV o1), some (loV o3), some (.int (60 - h1)), some (.int (g1 + g2)), some (.int hb)] ∧ 0 ≤ hb ∧ hb ≤ 60 ∧ ((sg' = [62] ∨ sg' = [38]) → hb = h1) ∧ StP H p lc l1 d1 d2 l3 H' (rs ++ [tq]) (ss ++ [⟨b ++ digs i, sg', o1, o3⟩]) kh (dK' dn) ((dn.map (·.1)).map fun n => V.str (Tx n)) (B + 20 * i + 12), ?_, ?_⟩
      · refine ⟨_, rfl, (by show 3 ≤ sizeLine; decide), fun q1 nq1 => ⟨q1, _, rfl, .inl (SqL.of upd_same), rfl, rfl, _, congrArg V.bl (in_pmt _ hsg'), ?_⟩⟩
        have S3 := S2.same (same_upd (o := HO.lst [V.str "+", .str "-", .str "*"]) nq1)
        generalize upd H14 q1 (HO.lst [V.str "+", .str "-", .str "*"]) = H15 at S3 ⊢
        obtain ⟨h3, hv3, h30, h360⟩ := hg.get (loKey o3)
        by_cases hc : sg' = [43] ∨ sg' = [45] ∨ sg' = [42]
        · rw [decide_eq_true hc]
          refine iteT ?_
          refine ⟨_, rfl, d1, rfl, .inl ⟨_, .inl S3.a2⟩, _, rfl, _, (by rw [← loKey_v]; exact DGet.k S3.a2), ?_⟩
          rw [hv1]
          refine ⟨_, rfl, d1, rfl, .inl ⟨_, .inl S3.a2⟩, _, rfl, _, (by rw [← loKey_v]; exact DGet.k S3.a2), ?_⟩
          rw [hv3]
          refine ⟨(by show 2 ≤ sizeLine; decide), fun q2 nq2 => ⟨q2, [h1, h3], rfl, SqL.of upd_same, Nat.succ_pos _, fun m hm hle => ?_⟩⟩
          have e := max_i hm hle
          refine ⟨m, rfl, by omega, by omega, (fun z => ?_), S3.same (same_upd nq2)⟩
          rcases hc with h | h | h <;> rw [h] at z <;> rcases z with z | z <;> cases z
        · rw [decide_eq_false hc]
          refine iteF ?_
          refine ⟨_, rfl, d1, rfl, .inl ⟨_, .inl S3.a2⟩, _, rfl, _, (by rw [← loKey_v]; exact DGet.k S3.a2), ?_⟩
          rw [hv1]
          exact ⟨h1, rfl, h10, h160, fun _ => rfl, S3⟩
      clear S2
      rintro σ' H15 ⟨hb2, rfl, hb0, hb60, hbc, S3⟩
      have nk : valV (dK' dn) (.inr (Tx (b ++ digs i))) = none := dK_no new.nd
      have o3cut : (sg' = [62] ∨ sg' = [38]) → ∃ k : Nat, o3 = .nu k ∧ k ≤ 4 ∧ (k : Int) ≤ 60 - h1 := fun h => by
        cases cho with
        | add z => rcases z with z | z <;> rw [z] at h <;> rcases h with h | h <;> cases h
        | mul _ _ => rcases h with h | h <;> cases h
        | @cut _ k _ a b => exact ⟨k, rfl, a, b⟩
        | up _ => rcases h with h | h <;> cases h
        | same => rcases h with h | h <;> cases h
      have o3pm : (sg' = [43] ∨ sg' = [45]) → o3 = o2 := fun h => by
        cases cho with
        | add z => rfl
        | mul _ _ => rcases h with h | h <;> cases h
        | cut z _ _ => rcases z with z | z <;> rw [z] at h <;> rcases h with h | h <;> cases h
        | up _ => rcases h with h | h <;> cases h
        | same => rcases h with h | h <;> cases h
      refine ⟨fun σ' H' => ∃ kh', σ' = [some (.ref p), some (.int n), some (.int 60), some (.int 4), some (.ref l1), some (.ref d1), some (.ref d2), some (.ref l3), some (.int i), some (.str (Tx (b ++ digs i))), some (.str (Tx sg')), some (loV o1), some (loV o3), some (.int (60 - h1)), some (.int (g1 + g2)), some (.int hb2)] ∧ HgOk kh' ∧ kh'.length ≤ i + 1 + 1 ∧ StP H p lc l1 d1 d2 l3 H' (rs ++ [tq]) (ss ++ [⟨b ++ digs i, sg', o1, o3⟩]) kh' (dK' dn) ((dn.map (·.1)).map fun n => V.str (Tx n)) (B + 20 * i + 12), ?_, ?_⟩
      · refine ⟨_, rfl, _, rfl, (by show 2 ≤ sizeLine; decide), fun q1 nq1 => ⟨q1, _, rfl, .inl (SqL.of upd_same), rfl, rfl, _, congrArg V.bl (in_cut _ hsg'), ?_⟩⟩
        have S4 := S3.same (same_upd (o := HO.lst [V.str ">", .str "&"]) nq1)
        generalize upd H15 q1 (HO.lst [V.str ">", .str "&"]) = H16 at S4 ⊢
        have kl : kh.length < sizeLine := by rw [sizeLine_eq]; omega
        by_cases hc : sg' = [62] ∨ sg' = [38]
        · rw [decide_eq_true hc]
          refine iteT ?_
          obtain ⟨k, e3, hk1, hk2⟩ := o3cut hc
          have hb1 := hbc hc
          refine ⟨_, rfl, _, _, rfl, by rw [e3]; rfl, _, rfl, _, rfl, d1, _, rfl, DPut.k (k := .inr (Tx (b ++ digs i))) S4.a2 kl, ?_⟩
          exact ⟨_, rfl, hg.put _ (by omega) (by omega), Nat.le_trans (putK_len _ _ _) (by omega), S4.put2 Di⟩
        · rw [decide_eq_false hc]
          refine iteF ?_
          refine ⟨_, _, rfl, rfl, _, rfl, _, rfl, d1, _, rfl, DPut.k (k := .inr (Tx (b ++ digs i))) S4.a2 kl, ?_⟩
          exact ⟨_, rfl, hg.put _ (by omega) (by omega), Nat.le_trans (putK_len _ _ _) (by omega), S4.put2 Di⟩
      clear S3
      rintro σ' H16 ⟨kh', rfl, hg', hgl', S4⟩
      refine ⟨_, rfl, d2, rfl, .inl ⟨_, .inl S4.a3⟩, _, rfl, _, (by rw [← loKey_v]; exact DGet.k S4.a3), ?_⟩
      rw [v1]
      refine ⟨_, rfl, _, rfl, d2, _, rfl, DPut.k (k := .inr (Tx (b ++ digs i))) S4.a3 (by rw [dln, sizeLine_eq]; omega), ?_⟩
      rw [putK_new _ nk]
      have S5 := S4.put3 Di (kv' := dK' dn ++ [(.inr (Tx (b ++ digs i)), V.int g1)])
      clear S4
      generalize upd H16 d2 (HO.dK (dK' dn ++ [(.inr (Tx (b ++ digs i)), V.int g1)])) = H17 at S5 ⊢
      have dln2 : ∀ x, (dK' dn ++ [((.inr (Tx (b ++ digs i)) : Key), x)]).length < sizeLine := fun x => by rw [List.length_append, dln, sizeLine_eq]; show i + 1 + 1 < _; omega
      refine ⟨fun σ' H' => ∃ dg : Nat, σ' = [some (.ref p), some (.int n), some (.int 60), some (.int 4), some (.ref l1), some (.ref d1), some (.ref d2), some (.ref l3), some (.int i), some (.str (Tx (b ++ digs i))), some (.str (Tx sg')), some (loV o1), some (loV o3), some (.int (60 - h1)), some (.int (g1 + g2)), some (.int hb2)] ∧ (sg' = [43] ∨ sg' = [45] → dg = max g1 g2) ∧ (¬ (sg' = [43] ∨ sg' = [45]) → dg = g1) ∧ StP H p lc l1 d1 d2 l3 H' (rs ++ [tq]) (ss ++ [⟨b ++ digs i, sg', o1, o3⟩]) kh' (dK' dn ++ [(.inr (Tx (b ++ digs i)), V.int dg)]) ((dn.map (·.1)).map fun n => V.str (Tx n)) (B + 20 * i + 12), ?_, ?_⟩
      · refine ⟨_, rfl, (by show 2 ≤ sizeLine; decide), fun q1 nq1 => ⟨q1, _, rfl, .inl (SqL.of upd_same), rfl, rfl, _, congrArg V.bl (in_pm _ hsg'), ?_⟩⟩
        have S6 := S5.same (same_upd (o := HO.lst [V.str "+", .str "-"]) nq1)
        generalize upd H17 q1 (HO.lst [V.str "+", .str "-"]) = H18 at S6 ⊢
        by_cases hc : sg' = [43] ∨ sg' = [45]
        · rw [decide_eq_true hc]
          refine iteT ?_
          have e3 := o3pm hc
          refine ⟨_, rfl, d2, rfl, .inl ⟨_, .inl S6.a3⟩, _, rfl, _, (by rw [← loKey_v]; exact DGet.k S6.a3), ?_⟩
          rw [dK_ext new.nd ok1 v1]
          refine ⟨_, rfl, d2, rfl, .inl ⟨_, .inl S6.a3⟩, _, rfl, _, (by rw [e3, ← loKey_v]; exact DGet.k S6.a3), ?_⟩
          rw [dK_ext new.nd ok2 v2]
          refine ⟨(by show 2 ≤ sizeLine; decide), fun q2 nq2 => ⟨q2, [(g1 : Int), (g2 : Int)], rfl, SqL.of upd_same, Nat.succ_pos _, fun m hm hle => ?_⟩⟩
          have e := max_i hm hle
          have S7 := S6.same (same_upd (o := HO.lst [V.int g1, .int g2]) nq2)
          refine ⟨_, rfl, _, rfl, d2, _, rfl, DPut.k (k := .inr (Tx (b ++ digs i))) S7.a3 (dln2 _), ?_⟩
          rw [putK_last nk]
          have em : m = ((max g1 g2 : Nat) : Int) := by omega
          subst em
          exact ⟨max g1 g2, rfl, fun _ => rfl, fun z => absurd hc z, S7.put3 Di⟩
        · rw [decide_eq_false hc]
          refine iteF ?_
          exact ⟨g1, rfl, fun z => absurd z hc, fun _ => rfl, S6⟩
      clear S5
      rintro σ' H18 ⟨dg, rfl, hpm1, hpm2, S6⟩
      refine ⟨fun σ' H' => ∃ dg : Nat, σ' = [some (.ref p), some (.int n), some (.int 60), some (.int 4), some (.ref l1), some (.ref d1), some (.ref d2), some (.ref l3), some (.int i), some (.str (Tx (b ++ digs i))), some (.str (Tx sg')), some (loV o1), some (loV o3), some (.int (60 - h1)), some (.int (g1 + g2)), some (.int hb2)] ∧ dg ≤ 4 ∧ StepOk [] dn ⟨b ++ digs i, sg', o1, o3⟩ dg ∧ StP H p lc l1 d1 d2 l3 H' (rs ++ [tq]) (ss ++ [⟨b ++ digs i, sg', o1, o3⟩]) kh' (dK' dn ++ [(.inr (Tx (b ++ digs i)), V.int dg)]) ((dn.map (·.1)).map fun n => V.str (Tx n)) (B + 20 * i + 12), ?_, ?_⟩
      · refine ⟨_, rfl, rfl, _, rfl, ?_⟩
        rw [lit_star, tx_eq]
        by_cases h42' : sg' = [42]
        · rw [decide_eq_true h42']
          refine iteT ?_
          refine ⟨_, rfl, _, rfl, _, rfl, d2, _, rfl, DPut.k (k := .inr (Tx (b ++ digs i))) S6.a3 (dln2 _), ?_⟩
          rw [putK_last nk, show ((g1 : Int) + (g2 : Int)) = ((g1 + g2 : Nat) : Int) by omega]
          refine ⟨g1 + g2, rfl, (h42 h42').2, ?_, S6.put3 Di⟩
          exact cho.step ok1 ok2 (fun _ => rfl) (fun z => by rw [h42'] at z; rcases z with z | z <;> cases z) (fun z _ => absurd h42' z)
        · rw [decide_eq_false h42']
          refine iteF ?_
          refine ⟨dg, rfl, ?_, cho.step ok1 ok2 (fun z => absurd z h42') hpm1 (fun _ z => hpm2 z), S6⟩
          by_cases hc : sg' = [43] ∨ sg' = [45]
          · rw [hpm1 hc]; omega
          · rw [hpm2 hc]; exact g14
      clear S6
      rintro σ' H19 ⟨dg2, rfl, dg4, stok, S7⟩
      refine ⟨_, rfl, .inl ⟨rfl, _, SqL.of S7.a4⟩, _, rfl, l3, _, _, rfl, rfl, S7.a4, (by rw [List.length_map, sizeLine_eq]; omega), ?_⟩
      have S8 := S7.put4 Di (nn' := ((dn.map (·.1)).map fun n => V.str (Tx n)) ++ [V.str (Tx (b ++ digs i))])
      have w2 := Wf.snoc wf stok dg4 new
      have fit2 := cho.fit nm2 z2
      refine ⟨rs ++ [tq], ss ++ [⟨b ++ digs i, sg', o1, o3⟩], dn ++ [(b ++ digs i, dg2)], kh', _, _, _, _, _, _, _, _, rfl, S8.a1, S8.al, w2, mdn.snoc hb (by rw [sl]), (by rw [List.length_append, sl]; rfl), (fun s hs => ?_), S8.a2, hg', hgl', ?_, ?_, S8.k, S8.pe.more (by omega)⟩
      · rcases List.mem_append.mp hs with hs | hs
        · exact fit s hs
        · rw [List.mem_singleton.mp hs]
          exact ⟨⟨(sg_fit _ hsg').1, z1, fit2.2⟩, nm1, fit2.1, new.nm.len, (sg_fit _ hsg').2⟩
      · rw [S8.a3, dK', dK', List.map_append]
        rfl
      · rw [S8.a4, List.map_append, List.map_append]
        rfl
    · rintro σ H6 ⟨rs, ss, dn, kh, v8, v9, v10, v11, v12, v13, v14, v15, rfl, a1, all, wf, mdn, sl, fit, a2, hg, hgl, a3, a4, k6, p6⟩
      refine ⟨_, rfl, ?_⟩
      exact q l1 rs ss dn H6 a1 all wf mdn (by omega) fit (pn _ nl1) nl1 k6 (p6.more (by omega))
end

end Vf

set_option maxRecDepth 100000
set_option maxHeartbeats 8000000
namespace Vf
open PySem PySem.Spec PyProof.Rows L2
/-! ### wrong texts -/
def errOf {α : Type} (r : Except (Nat × Nat) α) : Option (Nat × Nat) := match r with
  | .error e => some e
  | .ok _ => none
def waysL : List (List Nat × Nat) := [([98], 2),
  ([98, 32], 3),
  ([98, 32, 61], 4),
  ([98, 32, 61, 32], 5),
  ([61, 32, 51], 1),
  ([66, 32, 61, 32, 51], 1),
  ([49, 98, 32, 61, 32, 51], 1),
  ([98, 32, 61, 32, 122], 5),
  ([97, 32, 61, 32, 51], 1),
  ([97, 32, 61, 32, 122], 1),
  ([97, 32, 61, 32, 120, 32, 43], 1),
  ([98, 32, 61, 32, 122, 32, 62, 32, 51], 5),
  ([98, 32, 61, 32, 122, 32, 43], 5),
  ([116, 32, 61, 32, 51], 1),
  ([120, 32, 61, 32, 51], 2),
  ([120], 2),
  ([98, 32, 61, 32, 120, 32, 43], 8),
  ([98, 32, 61, 32, 120, 32, 43, 32], 9),
  ([98, 32, 61, 32, 120, 32, 62, 32, 51], 8),
  ([98, 32, 61, 32, 120, 32, 62, 62, 32, 45, 49], 10),
  ([98, 32, 61, 32, 120, 32, 62, 62, 32, 97], 10),
  ([98, 32, 61, 32, 120, 32, 62, 62, 32, 54, 49], 11),
  ([98, 32, 61, 32, 120, 32, 60, 60, 32, 48, 53], 11),
  ([98, 32, 61, 32, 120, 32, 38, 32, 55, 32, 43, 32, 49], 11),
  ([98, 32, 61, 32, 120, 32, 51], 7),
  ([98, 32, 61, 32, 48, 53], 6),
  ([98, 32, 61, 32, 45, 32, 52], 6),
  ([98, 32, 61, 32, 45, 45, 52], 6),
  ([98, 32, 61, 32, 120, 32, 45, 32, 45, 32, 52], 10),
  ([98, 32, 61, 32, 120, 32, 42, 32, 121], 9),
  ([98, 32, 61, 32, 116], 6),
  ([98, 32, 61, 32, 116, 91], 7),
  ([98, 32, 61, 32, 116, 91, 120], 8),
  ([98, 32, 61, 32, 116, 91, 122, 93], 7),
  ([98, 32, 61, 32, 116, 91, 120, 93, 32, 43, 32, 49], 10),
  ([98, 32, 61, 32, 97, 91, 120, 93], 6),
  ([98, 32, 61, 32, 120, 32, 43, 32, 116], 9),
  ([97, 98, 99, 100, 101, 102, 103, 104, 105, 32, 61, 32, 51], 9),
  ([98, 32, 61, 32, 55, 55, 55, 55, 55, 55, 55, 55, 55, 55, 55, 55, 55, 55, 55, 55, 55, 55, 55, 55, 55, 55, 55, 55, 55, 55, 55, 55, 55, 55, 55], 35),
  ([116, 97, 98, 108, 101, 32, 61, 32, 51], 6),
  ([116, 97, 98, 108, 101, 32, 117, 32, 51], 6),
  ([116, 97, 98, 108, 101, 115, 32, 61, 32, 122], 10),
  ([98, 32, 58, 32, 51], 3),
  ([98, 32, 61, 32, 51, 59], 6),
  ([98, 32, 61, 32, 120, 32, 60, 62, 32, 51], 8),
  ([98, 32, 61, 32, 120, 32, 47, 32, 50], 7),
  ([98, 32, 61, 32, 51, 9], 6),
  ([98, 32, 61, 32, 120, 32, 63, 32, 51], 7)]
def waysT : List (List Nat × Nat) := [([116, 97, 98, 108, 101], 6),
  ([116, 97, 98, 108, 101, 32], 7),
  ([116, 97, 98, 108, 101, 32, 117], 8),
  ([116, 97, 98, 108, 101, 32, 117, 32], 9),
  ([116, 97, 98, 108, 101, 32, 116, 32, 51], 7),
  ([116, 97, 98, 108, 101, 32, 120, 32, 51], 8),
  ([116, 97, 98, 108, 101, 32, 116, 97, 98, 108, 101, 32, 51], 12),
  ([116, 97, 98, 108, 101, 32, 117, 32, 51, 32, 120], 11),
  ([116, 97, 98, 108, 101, 32, 117, 32, 51, 44, 52], 10),
  ([116, 97, 98, 108, 101, 32, 117, 32, 48, 51], 10),
  ([116, 97, 98, 108, 101, 32, 117, 32, 45], 10),
  ([116, 97, 98, 108, 101, 32, 55, 32, 51], 7),
  ([116, 97, 98, 108, 101, 32, 116, 32, 51, 44, 52], 7),
  ([116, 97, 98, 108, 101, 32, 117, 32, 97], 9),
  ([116, 97, 98, 108], 5),
  ([116, 97, 98, 108, 101, 32, 117, 32, 51, 32, 45, 32, 52], 12),
  ([116, 32, 51], 1)]
def fronts : List (List Nat) := [[], [10], [32, 10]]
def tabL : List Nat := [116, 97, 98, 108, 101, 32, 116, 32, 49, 32, 50, 10]
def endL : List Nat := [10, 66, 10]
def lineA : List Nat := [97, 32, 61, 32, 120, 10]
def badL (front : List Nat) (pad : Nat) (w : List Nat) : List Nat := tabL ++ (front ++ (lineA ++ (sp pad ++ (w ++ endL))))
def badT (front : List Nat) (pad : Nat) (w : List Nat) : List Nat := tabL ++ (front ++ (sp pad ++ (w ++ endL)))
theorem bad_lines : (waysL.all fun w => fronts.all fun f => [0, 1, 2].all fun p => decide (errOf (pProg (badL f p w.1)) = some ((spn [] (badL f p w.1)).length - 2, w.2 + p))) = true := by decide +kernel
theorem bad_tables : (waysT.all fun w => fronts.all fun f => [0, 1, 2].all fun p => decide (errOf (pProg (badT f p w.1)) = some ((spn [] (badT f p w.1)).length - 2, w.2 + p))) = true := by decide +kernel
def bares : List (List Nat × Nat) := [([], 1),
  ([10], 2),
  ([116, 97, 98, 108, 101, 32, 116, 32, 51], 2),
  ([116, 97, 98, 108, 101, 32, 116, 32, 51, 10, 32, 10], 3),
  ([32, 32], 2)]
theorem bad_bares : (bares.all fun w => decide (errOf (pProg w.1) = some (w.2, 1))) = true := by decide +kernel
/-! ### right texts that are fixed -/
def runOf (t : List Nat) (z : Int) : Option (Option (List Int)) := match pProg t with
  | .ok st => runs st.tabs [z] st.steps
  | .error _ => none
theorem runOf_ok {t : List Nat} {z : Int} {r : Option (List Int)} (h : runOf t z = some r) : ∃ st, pProg t = .ok st ∧ runs st.tabs [z] st.steps = some r := by
  unfold runOf at h
  cases e : pProg t with
  | error c => rw [e] at h; cases h
  | ok st => rw [e] at h; exact ⟨st, rfl, h⟩
def textF1 : List Nat := [32, 116, 97, 98, 108, 101, 32, 32, 116, 32, 32, 49, 32, 32, 32, 45, 50, 32, 10, 32, 121, 32, 61, 32, 116, 32, 91, 32, 120, 32, 93, 32, 10, 122, 61, 51, 32, 45, 52, 10, 117, 32, 61, 32, 121, 45, 49, 10, 118, 61, 117, 45, 45, 49, 10, 119, 32, 61, 32, 120, 32, 45, 55]
def textF2 : List Nat := [97, 32, 61, 32, 45, 48, 10, 98, 32, 61, 32, 120, 32, 45, 32, 45, 48]
def textF3 : List Nat := [97, 32, 61, 32, 120]
def textF4 : List Nat := [9, 10, 97, 32, 61, 32, 120]
theorem fixed1 : runOf textF1 1 = some (some [1, -2, -1, -3, -2, -6]) := by decide +kernel
theorem fixed2 : runOf textF2 7 = some (some [7, 0, 7]) := by decide +kernel
theorem fixed3 : runOf textF3 0 = some (some [0, 0]) := by decide +kernel
theorem fixed4 : errOf (pProg textF4) = some (1, 1) := by decide +kernel
theorem lit_F1 : (" table  t  1   -2 \n y = t [ x ] \nz=3 -4\nu = y-1\nv=u--1\nw = x -7" : Str) = Tx textF1 := by decide +kernel
theorem lit_F2 : ("a = -0\nb = x - -0" : Str) = Tx textF2 := by decide +kernel
theorem lit_F3 : ("a = x" : Str) = Tx textF3 := by decide +kernel
theorem lit_F4 : ("\t\na = x" : Str) = Tx textF4 := by decide +kernel
theorem errOf_ok {t : List Nat} {e : Nat × Nat} (h : errOf (pProg t) = some e) : pProg t = .error e := by
  unfold errOf at h
  cases p : pProg t with
  | error c => rw [p] at h; cases h; rfl
  | ok st => rw [p] at h; cases h

end Vf

set_option maxRecDepth 100000
set_option maxHeartbeats 4000000
/-! a space, some times or not at all -/
namespace Vf
open PySem PySem.Spec PyProof.Rows L2
theorem foldl_rep (c : Nat) : ∀ (m : Nat) (acc : Array Nat), List.foldl (fun x1 x2 => x1 ++ x2) acc (List.replicate m #[c]) = acc ++ (List.replicate m c).toArray
  | 0, acc => by simp
  | m + 1, acc => by
    rw [List.replicate_succ, List.foldl_cons, foldl_rep c m, List.replicate_succ]
    refine Array.ext' ?_
    rw [Array.toList_append, Array.toList_append, Array.toList_append, List.append_assoc]
    rfl
def rRepG : R2 := fun x y H Q => ∃ (c : Nat) (n : Int), x = .str (Tx [c]) ∧ y = .int n ∧ 0 ≤ n ∧ n ≤ 1000 ∧ Q (.str (Tx (List.replicate n.toNat c))) H
theorem op_repG {X : Cx} : OpR X (binaryOp .Mult) rRepG := by
  intro pins s σ H x y v u Q I rx ry h
  obtain ⟨c, n, rfl, rfl, n1, n2, q⟩ := h
  obtain ⟨t, rfl⟩ := rx
  obtain ⟨t2, rfl⟩ := ry
  have hl : (Tx [c]).length = 1 := rfl
  refine PySem.P.mul_str ?_ (fun _ _ => ?_) (fun _ _ => ?_) ?_
  · rw [decide_eq_false (by omega), decide_eq_false (by omega)]
    rfl
  · rw [hl]
    have : 1 ≤ (2 ^ 63 - 1) / n := Int.le_ediv_of_mul_le (by omega) (by omega)
    omega
  · rw [hl]
    show decide (1 * n.toNat > sizeLine) = false
    rw [sizeLine_eq]
    exact decide_eq_false (by omega)
  · by_cases h0 : n < 1
    · rw [if_pos h0]
      have e : n = 0 := by omega
      subst e
      exact ⟨by decide, .str _, H, I.tok _, ⟨_, rfl⟩, q⟩
    · rw [if_neg h0]
      by_cases h1 : (n == 1 || (Tx [c]).length == 0) = true
      · rw [if_pos h1]
        rw [Bool.or_eq_true, beq_iff_eq, beq_iff_eq] at h1
        have e : n = 1 := by omega
        subst e
        exact ⟨.str _, H, I, ⟨_, rfl⟩, q⟩
      · rw [if_neg h1]
        have hz : (⟨List.foldl (fun x1 x2 => x1 ++ x2) #[] (List.replicate n.toNat (Tx [c]).cps)⟩ : Str) = Tx (List.replicate n.toNat c) := by
          show Str.mk (List.foldl (fun x1 x2 => x1 ++ x2) #[] (List.replicate n.toNat #[c])) = Str.mk _
          rw [foldl_rep]
          simp
        rw [hz]
        refine ⟨?_, .str _, H, I.tok _, ⟨_, rfl⟩, q⟩
        rw [tx_len, List.length_replicate, sizeLine_eq]
        omega
end Vf

set_option maxRecDepth 100000
set_option maxHeartbeats 8000000
namespace Vf
open PySem PySem.Spec PyProof.Rows L2
/-! ### lists of pairs that are written out -/
def tePairs : List (TE × V × V) → TA
  | [] => tNil
  | x :: ps => tCons (tTup (tCons x.1 (tCons (tC x.2.2) tNil))) (tePairs ps)
def PairAt (H : Hp) (r : Addr) (x : V × V) : Prop := H r = some (.tup [x.1, x.2])
theorem All2.same {H H' : Hp} {rs : List Addr} {ps : List (V × V)} (h : All2 (PairAt H) rs ps) (s : Same H H') : All2 (PairAt H') rs ps := h.imp fun _ _ e => s _ _ e
theorem All2.append {α : Type} {p : Addr → α → Prop} {rs qs : List Addr} {xs ys : List α} (h : All2 p rs xs) (h2 : All2 p qs ys) : All2 p (rs ++ qs) (xs ++ ys) := by
  induction h with
  | nil => exact h2
  | cons h _ ih => exact .cons h ih
theorem pairs_read : ∀ {ps : List (TE × V × V)} {σ : L2.St} {H : Hp} {k : List V → Hp → Prop}, (∀ x ∈ ps, ∀ (σ : L2.St) (H : Hp) (Q : VK), Q x.2.1 H → x.1 σ H Q) →
    (∀ (rs : List Addr) (H' : Hp), Same H H' → All2 (PairAt H') rs (ps.map (·.2)) → k (rs.map V.ref) H') → tePairs ps σ H k
  | [], σ, H, k, _, q => q [] H (Same.refl H) .nil
  | x :: ps, σ, H, k, h, q => by
    show tTup (tCons x.1 (tCons (tC x.2.2) tNil)) σ H fun v H1 => tePairs ps σ H1 fun vs H2 => k (v :: vs) H2
    refine h x List.mem_cons_self σ H _ ⟨(by show 2 ≤ sizeLine; decide), fun p np => ?_⟩
    refine pairs_read (fun y hy => h y (List.mem_cons_of_mem _ hy)) fun rs H' s a => ?_
    exact q (p :: rs) H' ((same_upd np).trans s) (.cons (s _ _ upd_same) a)
theorem lst_pairs {ps : List (TE × V × V)} {σ : L2.St} {H : Hp} {Q : VK} (hl : ps.length ≤ 1000) (h : ∀ x ∈ ps, ∀ (σ : L2.St) (H : Hp) (Q : VK), Q x.2.1 H → x.1 σ H Q)
    (q : ∀ (p : Addr) (rs : List Addr) (H' : Hp), Same H H' → H p = none → H' p = some (.lst (rs.map V.ref)) → All2 (PairAt H') rs (ps.map (·.2)) → Q (.ref p) H') : tLst (tePairs ps) σ H Q := by
  show tePairs ps σ H fun xs H1 => xs.length ≤ sizeLine ∧ ∀ p, H1 p = none → Q (.ref p) (upd H1 p (.lst xs))
  refine pairs_read h fun rs H' s a => ⟨?_, fun p np => ?_⟩
  · rw [List.length_map, a.len, List.length_map, sizeLine_eq]
    omega
  · exact q p rs _ (s.trans (same_upd np)) (s.free np) upd_same (a.same (same_upd np))
theorem set_pairs {ps : List (TE × V × V)} {i : Nat} {rest : TS} {D : Ends} {σ : L2.St} {H : Hp} (hl : ps.length ≤ 1000) (h : ∀ x ∈ ps, ∀ (σ : L2.St) (H : Hp) (Q : VK), Q x.2.1 H → x.1 σ H Q)
    (q : ∀ (p : Addr) (rs : List Addr) (H' : Hp), Same H H' → H' p = some (.lst (rs.map V.ref)) → All2 (PairAt H') rs (ps.map (·.2)) → rest D (σ.set i (some (.ref p))) H') : tSeq (tAsg (tLst (tePairs ps)) (gName i)) rest D σ H := by
  show tLst (tePairs ps) σ H fun v H1 => gName i v σ H1 fun σ2 H2 => rest D σ2 H2
  exact lst_pairs hl h fun p rs H' s _ e a => q p rs H' s e a
theorem cat_pairs {ps : List (TE × V × V)} {i : Nat} {rest : TS} {D : Ends} {σ : L2.St} {H : Hp} {p0 : Addr} {rs0 : List Addr} {xs : List (V × V)} (hl : ps.length ≤ 1000) (h : ∀ x ∈ ps, ∀ (σ : L2.St) (H : Hp) (Q : VK), Q x.2.1 H → x.1 σ H Q)
    (hi : σ[i]? = some (some (.ref p0))) (e0 : H p0 = some (.lst (rs0.map V.ref))) (a0 : All2 (PairAt H) rs0 xs) (hx : xs.length ≤ 1000)
    (q : ∀ (p : Addr) (rs : List Addr) (H' : Hp), Same H H' → H' p = some (.lst (rs.map V.ref)) → All2 (PairAt H') rs (xs ++ ps.map (·.2)) → rest D (σ.set i (some (.ref p))) H') : tSeq (tAsg (tOp rCat (tVar i) (tLst (tePairs ps))) (gName i)) rest D σ H := by
  refine ⟨_, hi, ?_⟩
  refine lst_pairs hl h fun p rs H' s _ e a => ?_
  have l0 := a0.len
  have l1 := a.len
  rw [List.length_map] at l1
  refine ⟨p0, p, _, _, rfl, rfl, s _ _ e0, e, (by rw [List.length_map, List.length_map, sizeLine_eq]; omega), fun p2 np2 => ?_⟩
  refine q p2 (rs0 ++ rs) _ (s.trans (same_upd np2)) (by rw [upd_same, List.map_append]) ?_
  exact ((a0.same s).append a).same (same_upd np2)
theorem All2.mem {α : Type} {p : Addr → α → Prop} {rs : List Addr} {xs : List α} (h : All2 p rs xs) {r : Addr} (hr : r ∈ rs) : ∃ x, x ∈ xs ∧ p r x := by
  obtain ⟨i, hi⟩ := List.getElem?_of_mem hr
  obtain ⟨x, hx, hp⟩ := h.at hi
  exact ⟨x, List.mem_of_getElem? hx, hp⟩
def cPairs (ps : List (List Nat × Nat)) : List (TE × V × V) := ps.map fun p => (tC (.str (Tx p.1)), .str (Tx p.1), .int (p.2 : Int))
theorem cPairs_ok (ps : List (List Nat × Nat)) : ∀ x ∈ cPairs ps, ∀ (σ : L2.St) (H : Hp) (Q : VK), Q x.2.1 H → x.1 σ H Q := fun x hx σ H Q q => by
  obtain ⟨p, _, rfl⟩ := List.mem_map.mp hx
  exact q
def spWays (ways : List (List Nat × Nat)) : Sp := fun vs H Q _ => ∃ (p lc : Addr) (B : Int), vs = [.ref p] ∧ Pen H p lc B ∧ B ≤ 1000000 ∧ ∀ (r : Addr) (x : List Nat × Nat) (H' : Hp), x ∈ ways → H' r = some (.tup [.str (Tx x.1), .int (x.2 : Int)]) → Kp p H H' → Pen H' p lc (B + 1) → Q (.ref r) H'
section
variable {P : Program} {w : World} {K : PySem.W.Frag} {mg : Str → Option Value} {base : Heap}
abbrev sWTb : Stmt := topS 50
theorem scWTb : FnScope ["_law_pen_here", "_law_ways"] ["_law_pen_here"] (defScope sWTb) := ⟨rfl, rfl, rfl, by decide +kernel, rfl, by decide +kernel, by decide +kernel⟩
theorem ok_wtb {f : Addr} {fd : FuncData} (F : Fun K "_law_wrong_table" "_law_wrong_table" sWTb f fd) (G__law_pick : Df P w K mg base "_law_pick" 2 ["_law_pen_here", "_law_some"] spPick) : FnOk P w K mg base CX0 3 f fd ["_law_pen_here"] (spWays waysT) := by
  refine F.ok scWTb (fun vs H Q E h => ?_) (fun cdv A outer s H vs Q E hr h => ?_)
  · obtain ⟨p, lc, B, rfl, _⟩ := h
    rfl
  · obtain ⟨p, lc, B, rfl, hP, hB, q⟩ := h
    refine ⟨_, (pss_cons (ps_set (i := 1) scWTb.nd rfl (Or.inl rfl) (pe_lst (pa_cons (pe_tup (pa_cons pe_str (pa_cons pe_int pa_nil))) (pa_cons (pe_tup (pa_cons pe_str (pa_cons pe_int pa_nil))) (pa_cons (pe_tup (pa_cons pe_str (pa_cons pe_int pa_nil))) (pa_cons (pe_tup (pa_cons pe_str (pa_cons pe_int pa_nil))) (pa_cons (pe_tup (pa_cons pe_str (pa_cons pe_int pa_nil))) pa_nil)))))))
  (pss_cons (ps_set (i := 1) scWTb.nd rfl (Or.inl rfl) (pe_op op_cat (pv 1) (pe_lst (pa_cons (pe_tup (pa_cons pe_str (pa_cons pe_int pa_nil))) (pa_cons (pe_tup (pa_cons pe_str (pa_cons pe_int pa_nil))) pa_nil)))))
  (pss_cons (ps_set (i := 1) scWTb.nd rfl (Or.inl rfl) (pe_op op_cat (pv 1) (pe_lst (pa_cons (pe_tup (pa_cons pe_str (pa_cons pe_int pa_nil))) (pa_cons (pe_tup (pa_cons pe_str (pa_cons pe_int pa_nil))) (pa_cons (pe_tup (pa_cons pe_str (pa_cons pe_int pa_nil))) (pa_cons (pe_tup (pa_cons pe_str (pa_cons pe_int pa_nil))) pa_nil)))))))
  (pss_cons (ps_set (i := 1) scWTb.nd rfl (Or.inl rfl) (pe_op op_cat (pv 1) (pe_lst (pa_cons (pe_tup (pa_cons pe_str (pa_cons pe_int pa_nil))) pa_nil))))
  (pss_one (ps_ret (pe_call G__law_pick.ok (hr.mono (by decide)) rfl G__law_pick.m G__law_pick.kp G__law_pick.b .nil pass0 (pa_cons (pv 0) (pa_cons (pe_op op_cat (pv 1) (pe_lst (pa_cons (pe_tup (pa_cons pe_str (pa_cons pe_int pa_nil))) (pa_cons (pe_tup (pa_cons pe_str (pa_cons pe_int pa_nil))) (pa_cons (pe_tup (pa_cons pe_str (pa_cons pe_int pa_nil))) (pa_cons (pe_tup (pa_cons pe_str (pa_cons pe_int pa_nil))) (pa_cons (pe_tup (pa_cons pe_str (pa_cons pe_int pa_nil))) pa_nil))))))) pa_nil))))))))), ?_⟩
    refine set_pairs (ps := [(tC (.str "table"), .str "table", .int 6), (tC (.str "table "), .str "table ", .int 7), (tC (.str "table u"), .str "table u", .int 8), (tC (.str "table u "), .str "table u ", .int 9), (tC (.str "table t 3"), .str "table t 3", .int 7)]) (by decide) (by intro x hx; simp only [List.mem_cons, List.not_mem_nil, or_false] at hx; rcases hx with rfl | rfl | rfl | rfl | rfl <;> exact fun _ _ _ q => q) fun p0 r0 G0 s0 e0 a0 => ?_
    refine cat_pairs (ps := [(tC (.str "table x 3"), .str "table x 3", .int 8), (tC (.str "table table 3"), .str "table table 3", .int 12)]) (by decide) (by intro x hx; simp only [List.mem_cons, List.not_mem_nil, or_false] at hx; rcases hx with rfl | rfl <;> exact fun _ _ _ q => q) rfl e0 a0 (by decide) fun p1 r1 G1 s1 e1 a1 => ?_
    have s1 := s0.trans s1
    refine cat_pairs (ps := [(tC (.str "table u 3 x"), .str "table u 3 x", .int 11), (tC (.str "table u 3,4"), .str "table u 3,4", .int 10), (tC (.str "table u 03"), .str "table u 03", .int 10), (tC (.str "table u -"), .str "table u -", .int 10)]) (by decide) (by intro x hx; simp only [List.mem_cons, List.not_mem_nil, or_false] at hx; rcases hx with rfl | rfl | rfl | rfl <;> exact fun _ _ _ q => q) rfl e1 a1 (by decide) fun p2 r2 G2 s2 e2 a2 => ?_
    have s2 := s1.trans s2
    refine cat_pairs (ps := [(tC (.str "table 7 3"), .str "table 7 3", .int 7)]) (by decide) (by intro x hx; simp only [List.mem_cons, List.not_mem_nil, or_false] at hx; rcases hx with rfl <;> exact fun _ _ _ q => q) rfl e2 a2 (by decide) fun p3 r3 G3 s3 e3 a3 => ?_
    have s3 := s2.trans s3
    refine ⟨_, rfl, _, rfl, ?_⟩
    refine lst_pairs (ps := [(tC (.str "table t 3,4"), .str "table t 3,4", .int 7), (tC (.str "table u a"), .str "table u a", .int 9), (tC (.str "tabl"), .str "tabl", .int 5), (tC (.str "table u 3 - 4"), .str "table u 3 - 4", .int 12), (tC (.str "t 3"), .str "t 3", .int 1)]) (by decide) (by intro x hx; simp only [List.mem_cons, List.not_mem_nil, or_false] at hx; rcases hx with rfl | rfl | rfl | rfl | rfl <;> exact fun _ _ _ q => q) fun p4 r4 G4 s4 n4 e4 a4 => ?_
    have s34 := s3.trans s4
    refine ⟨p3, p4, _, _, rfl, rfl, s4 _ _ e3, e4, ?_, fun p5 n5 => ?_⟩
    · have l3 := a3.len
      have l4 := a4.len
      rw [List.length_map, List.length_map, l3, l4]
      decide
    · have all := ((a3.same s4).append a4).same (same_upd n5 (o := .lst (r3.map V.ref ++ r4.map V.ref)))
      have pen5 := (hP.same s34).same (same_upd n5 (o := .lst (r3.map V.ref ++ r4.map V.ref)))
      have n5p : p5 ≠ p := fun z => by
        obtain ⟨o, e⟩ := (hP.same s34).there
        rw [z, e] at n5
        cases n5
      have s45 := s34.trans (same_upd n5 (o := .lst (r3.map V.ref ++ r4.map V.ref)))
      refine ⟨p, lc, p5, B, _, rfl, pen5, by omega, upd_same, n5p, ?_, ?_, fun y H' hy pen' kp => ?_⟩
      · rw [← List.map_append, List.length_map, all.len]
        decide
      · rw [← List.map_append, List.length_map, all.len]
        decide
      · rw [← List.map_append] at hy
        obtain ⟨r, hr1, rfl⟩ := List.mem_map.mp hy
        obtain ⟨x, hx, hp⟩ := all.mem hr1
        have ew : ∀ x ∈ ([((V.str "table", V.int 6) : V × V), ((V.str "table ", V.int 7) : V × V), ((V.str "table u", V.int 8) : V × V), ((V.str "table u ", V.int 9) : V × V), ((V.str "table t 3", V.int 7) : V × V), ((V.str "table x 3", V.int 8) : V × V), ((V.str "table table 3", V.int 12) : V × V), ((V.str "table u 3 x", V.int 11) : V × V), ((V.str "table u 3,4", V.int 10) : V × V), ((V.str "table u 03", V.int 10) : V × V), ((V.str "table u -", V.int 10) : V × V), ((V.str "table 7 3", V.int 7) : V × V), ((V.str "table t 3,4", V.int 7) : V × V), ((V.str "table u a", V.int 9) : V × V), ((V.str "tabl", V.int 5) : V × V), ((V.str "table u 3 - 4", V.int 12) : V × V), ((V.str "t 3", V.int 1) : V × V)] : List (V × V)), ∃ w ∈ waysT, x = (V.str (Tx w.1), V.int (w.2 : Int)) := by decide +kernel
        obtain ⟨w, hw, rfl⟩ := ew x hx
        have rp : r ≠ p := by
          obtain ⟨_, _, _, _, _, hPA, _⟩ := pen5
          exact ne_of hp hPA.1 (by intro z; cases z)
        exact q r w H' hw (kp _ _ rp hp) ((Kp.of s45).trans kp) pen'
abbrev sWLn : Stmt := topS 49
theorem scWLn : FnScope ["_law_pen_here", "_law_ways"] ["_law_pen_here"] (defScope sWLn) := ⟨rfl, rfl, rfl, by decide +kernel, rfl, by decide +kernel, by decide +kernel⟩
theorem ok_wln {f : Addr} {fd : FuncData} (F : Fun K "_law_wrong_line" "_law_wrong_line" sWLn f fd) (G__law_pick : Df P w K mg base "_law_pick" 2 ["_law_pen_here", "_law_some"] spPick) : FnOk P w K mg base CX0 3 f fd ["_law_pen_here"] (spWays waysL) := by
  refine F.ok scWLn (fun vs H Q E h => ?_) (fun cdv A outer s H vs Q E hr h => ?_)
  · obtain ⟨p, lc, B, rfl, _⟩ := h
    rfl
  · obtain ⟨p, lc, B, rfl, hP, hB, q⟩ := h
    refine ⟨_, (pss_cons (ps_set (i := 1) scWLn.nd rfl (Or.inl rfl) (pe_lst (pa_cons (pe_tup (pa_cons pe_str (pa_cons pe_int pa_nil))) (pa_cons (pe_tup (pa_cons pe_str (pa_cons pe_int pa_nil))) (pa_cons (pe_tup (pa_cons pe_str (pa_cons pe_int pa_nil))) (pa_cons (pe_tup (pa_cons pe_str (pa_cons pe_int pa_nil))) (pa_cons (pe_tup (pa_cons pe_str (pa_cons pe_int pa_nil))) (pa_cons (pe_tup (pa_cons pe_str (pa_cons pe_int pa_nil))) (pa_cons (pe_tup (pa_cons pe_str (pa_cons pe_int pa_nil))) pa_nil)))))))))
  (pss_cons (ps_set (i := 1) scWLn.nd rfl (Or.inl rfl) (pe_op op_cat (pv 1) (pe_lst (pa_cons (pe_tup (pa_cons pe_str (pa_cons pe_int pa_nil))) (pa_cons (pe_tup (pa_cons pe_str (pa_cons pe_int pa_nil))) pa_nil)))))
  (pss_cons (ps_set (i := 1) scWLn.nd rfl (Or.inl rfl) (pe_op op_cat (pv 1) (pe_lst (pa_cons (pe_tup (pa_cons pe_str (pa_cons pe_int pa_nil))) (pa_cons (pe_tup (pa_cons pe_str (pa_cons pe_int pa_nil))) (pa_cons (pe_tup (pa_cons pe_str (pa_cons pe_int pa_nil))) (pa_cons (pe_tup (pa_cons pe_str (pa_cons pe_int pa_nil))) (pa_cons (pe_tup (pa_cons pe_str (pa_cons pe_int pa_nil))) pa_nil))))))))
  (pss_cons (ps_set (i := 1) scWLn.nd rfl (Or.inl rfl) (pe_op op_cat (pv 1) (pe_lst (pa_cons (pe_tup (pa_cons pe_str (pa_cons pe_int pa_nil))) (pa_cons (pe_tup (pa_cons pe_str (pa_cons pe_int pa_nil))) (pa_cons (pe_tup (pa_cons pe_str (pa_cons pe_int pa_nil))) (pa_cons (pe_tup (pa_cons pe_str (pa_cons pe_int pa_nil))) pa_nil)))))))
  (pss_cons (ps_set (i := 1) scWLn.nd rfl (Or.inl rfl) (pe_op op_cat (pv 1) (pe_lst (pa_cons (pe_tup (pa_cons pe_str (pa_cons pe_int pa_nil))) (pa_cons (pe_tup (pa_cons pe_str (pa_cons pe_int pa_nil))) pa_nil)))))
  (pss_cons (ps_set (i := 1) scWLn.nd rfl (Or.inl rfl) (pe_op op_cat (pv 1) (pe_lst (pa_cons (pe_tup (pa_cons pe_str (pa_cons pe_int pa_nil))) (pa_cons (pe_tup (pa_cons pe_str (pa_cons pe_int pa_nil))) (pa_cons (pe_tup (pa_cons pe_str (pa_cons pe_int pa_nil))) (pa_cons (pe_tup (pa_cons pe_str (pa_cons pe_int pa_nil))) pa_nil)))))))
  (pss_cons (ps_set (i := 1) scWLn.nd rfl (Or.inl rfl) (pe_op op_cat (pv 1) (pe_lst (pa_cons (pe_tup (pa_cons pe_str (pa_cons pe_int pa_nil))) pa_nil))))
  (pss_cons (ps_set (i := 1) scWLn.nd rfl (Or.inl rfl) (pe_op op_cat (pv 1) (pe_lst (pa_cons (pe_tup (pa_cons pe_str (pa_cons pe_int pa_nil))) (pa_cons (pe_tup (pa_cons pe_str (pa_cons pe_int pa_nil))) (pa_cons (pe_tup (pa_cons pe_str (pa_cons pe_int pa_nil))) (pa_cons (pe_tup (pa_cons pe_str (pa_cons pe_int pa_nil))) (pa_cons (pe_tup (pa_cons pe_str (pa_cons pe_int pa_nil))) pa_nil))))))))
  (pss_cons (ps_set (i := 1) scWLn.nd rfl (Or.inl rfl) (pe_op op_cat (pv 1) (pe_lst (pa_cons (pe_tup (pa_cons pe_str (pa_cons pe_int pa_nil))) pa_nil))))
  (pss_cons (ps_set (i := 1) scWLn.nd rfl (Or.inl rfl) (pe_op op_cat (pv 1) (pe_lst (pa_cons (pe_tup (pa_cons pe_str (pa_cons pe_int pa_nil))) (pa_cons (pe_tup (pa_cons pe_str (pa_cons pe_int pa_nil))) (pa_cons (pe_tup (pa_cons pe_str (pa_cons pe_int pa_nil))) (pa_cons (pe_tup (pa_cons pe_str (pa_cons pe_int pa_nil))) (pa_cons (pe_tup (pa_cons pe_str (pa_cons pe_int pa_nil))) pa_nil))))))))
  (pss_cons (ps_set (i := 1) scWLn.nd rfl (Or.inl rfl) (pe_op op_cat (pv 1) (pe_lst (pa_cons (pe_tup (pa_cons pe_str (pa_cons pe_int pa_nil))) pa_nil))))
  (pss_cons (ps_set (i := 1) scWLn.nd rfl (Or.inl rfl) (pe_op op_cat (pv 1) (pe_lst (pa_cons (pe_tup (pa_cons pe_str (pa_cons pe_int pa_nil))) (pa_cons (pe_tup (pa_cons (pe_op op_add_str pe_str (pe_op op_repG pe_str pe_int)) (pa_cons pe_int pa_nil))) (pa_cons (pe_tup (pa_cons pe_str (pa_cons pe_int pa_nil))) (pa_cons (pe_tup (pa_cons pe_str (pa_cons pe_int pa_nil))) pa_nil)))))))
  (pss_cons (ps_set (i := 1) scWLn.nd rfl (Or.inl rfl) (pe_op op_cat (pv 1) (pe_lst (pa_cons (pe_tup (pa_cons pe_str (pa_cons pe_int pa_nil))) pa_nil))))
  (pss_cons (ps_set (i := 1) scWLn.nd rfl (Or.inl rfl) (pe_op op_cat (pv 1) (pe_lst (pa_cons (pe_tup (pa_cons pe_str (pa_cons pe_int pa_nil))) (pa_cons (pe_tup (pa_cons pe_str (pa_cons pe_int pa_nil))) (pa_cons (pe_tup (pa_cons pe_str (pa_cons pe_int pa_nil))) (pa_cons (pe_tup (pa_cons pe_str (pa_cons pe_int pa_nil))) (pa_cons (pe_tup (pa_cons pe_str (pa_cons pe_int pa_nil))) pa_nil))))))))
  (pss_cons (ps_set (i := 1) scWLn.nd rfl (Or.inl rfl) (pe_op op_cat (pv 1) (pe_lst (pa_cons (pe_tup (pa_cons pe_str (pa_cons pe_int pa_nil))) pa_nil))))
  (pss_one (ps_ret (pe_call G__law_pick.ok (hr.mono (by decide)) rfl G__law_pick.m G__law_pick.kp G__law_pick.b .nil pass0 (pa_cons (pv 0) (pa_cons (pv 1) pa_nil)))))))))))))))))))), ?_⟩
    refine set_pairs (ps := [(tC (.str "b"), .str "b", .int 2), (tC (.str "b "), .str "b ", .int 3), (tC (.str "b ="), .str "b =", .int 4), (tC (.str "b = "), .str "b = ", .int 5), (tC (.str "= 3"), .str "= 3", .int 1), (tC (.str "B = 3"), .str "B = 3", .int 1), (tC (.str "1b = 3"), .str "1b = 3", .int 1)]) (by decide) (by intro x hx; simp only [List.mem_cons, List.not_mem_nil, or_false] at hx; rcases hx with rfl | rfl | rfl | rfl | rfl | rfl | rfl <;> exact fun _ _ _ q => q) fun p0 r0 G0 s0 e0 a0 => ?_
    refine cat_pairs (ps := [(tC (.str "b = z"), .str "b = z", .int 5), (tC (.str "a = 3"), .str "a = 3", .int 1)]) (by decide) (by intro x hx; simp only [List.mem_cons, List.not_mem_nil, or_false] at hx; rcases hx with rfl | rfl <;> exact fun _ _ _ q => q) rfl e0 a0 (by decide) fun p1 r1 G1 s1 e1 a1 => ?_
    have s1 := s0.trans s1
    refine cat_pairs (ps := [(tC (.str "a = z"), .str "a = z", .int 1), (tC (.str "a = x +"), .str "a = x +", .int 1), (tC (.str "b = z > 3"), .str "b = z > 3", .int 5), (tC (.str "b = z +"), .str "b = z +", .int 5), (tC (.str "t = 3"), .str "t = 3", .int 1)]) (by decide) (by intro x hx; simp only [List.mem_cons, List.not_mem_nil, or_false] at hx; rcases hx with rfl | rfl | rfl | rfl | rfl <;> exact fun _ _ _ q => q) rfl e1 a1 (by decide) fun p2 r2 G2 s2 e2 a2 => ?_
    have s2 := s1.trans s2
    refine cat_pairs (ps := [(tC (.str "x = 3"), .str "x = 3", .int 2), (tC (.str "x"), .str "x", .int 2), (tC (.str "b = x +"), .str "b = x +", .int 8), (tC (.str "b = x + "), .str "b = x + ", .int 9)]) (by decide) (by intro x hx; simp only [List.mem_cons, List.not_mem_nil, or_false] at hx; rcases hx with rfl | rfl | rfl | rfl <;> exact fun _ _ _ q => q) rfl e2 a2 (by decide) fun p3 r3 G3 s3 e3 a3 => ?_
    have s3 := s2.trans s3
    refine cat_pairs (ps := [(tC (.str "b = x > 3"), .str "b = x > 3", .int 8), (tC (.str "b = x >> -1"), .str "b = x >> -1", .int 10)]) (by decide) (by intro x hx; simp only [List.mem_cons, List.not_mem_nil, or_false] at hx; rcases hx with rfl | rfl <;> exact fun _ _ _ q => q) rfl e3 a3 (by decide) fun p4 r4 G4 s4 e4 a4 => ?_
    have s4 := s3.trans s4
    refine cat_pairs (ps := [(tC (.str "b = x >> a"), .str "b = x >> a", .int 10), (tC (.str "b = x >> 61"), .str "b = x >> 61", .int 11), (tC (.str "b = x << 05"), .str "b = x << 05", .int 11), (tC (.str "b = x & 7 + 1"), .str "b = x & 7 + 1", .int 11)]) (by decide) (by intro x hx; simp only [List.mem_cons, List.not_mem_nil, or_false] at hx; rcases hx with rfl | rfl | rfl | rfl <;> exact fun _ _ _ q => q) rfl e4 a4 (by decide) fun p5 r5 G5 s5 e5 a5 => ?_
    have s5 := s4.trans s5
    refine cat_pairs (ps := [(tC (.str "b = x 3"), .str "b = x 3", .int 7)]) (by decide) (by intro x hx; simp only [List.mem_cons, List.not_mem_nil, or_false] at hx; rcases hx with rfl <;> exact fun _ _ _ q => q) rfl e5 a5 (by decide) fun p6 r6 G6 s6 e6 a6 => ?_
    have s6 := s5.trans s6
    refine cat_pairs (ps := [(tC (.str "b = 05"), .str "b = 05", .int 6), (tC (.str "b = - 4"), .str "b = - 4", .int 6), (tC (.str "b = --4"), .str "b = --4", .int 6), (tC (.str "b = x - - 4"), .str "b = x - - 4", .int 10), (tC (.str "b = x * y"), .str "b = x * y", .int 9)]) (by decide) (by intro x hx; simp only [List.mem_cons, List.not_mem_nil, or_false] at hx; rcases hx with rfl | rfl | rfl | rfl | rfl <;> exact fun _ _ _ q => q) rfl e6 a6 (by decide) fun p7 r7 G7 s7 e7 a7 => ?_
    have s7 := s6.trans s7
    refine cat_pairs (ps := [(tC (.str "b = t"), .str "b = t", .int 6)]) (by decide) (by intro x hx; simp only [List.mem_cons, List.not_mem_nil, or_false] at hx; rcases hx with rfl <;> exact fun _ _ _ q => q) rfl e7 a7 (by decide) fun p8 r8 G8 s8 e8 a8 => ?_
    have s8 := s7.trans s8
    refine cat_pairs (ps := [(tC (.str "b = t["), .str "b = t[", .int 7), (tC (.str "b = t[x"), .str "b = t[x", .int 8), (tC (.str "b = t[z]"), .str "b = t[z]", .int 7), (tC (.str "b = t[x] + 1"), .str "b = t[x] + 1", .int 10), (tC (.str "b = a[x]"), .str "b = a[x]", .int 6)]) (by decide) (by intro x hx; simp only [List.mem_cons, List.not_mem_nil, or_false] at hx; rcases hx with rfl | rfl | rfl | rfl | rfl <;> exact fun _ _ _ q => q) rfl e8 a8 (by decide) fun p9 r9 G9 s9 e9 a9 => ?_
    have s9 := s8.trans s9
    refine cat_pairs (ps := [(tC (.str "b = x + t"), .str "b = x + t", .int 9)]) (by decide) (by intro x hx; simp only [List.mem_cons, List.not_mem_nil, or_false] at hx; rcases hx with rfl <;> exact fun _ _ _ q => q) rfl e9 a9 (by decide) fun p10 r10 G10 s10 e10 a10 => ?_
    have s10 := s9.trans s10
    refine cat_pairs (ps := [(tC (.str "abcdefghi = 3"), .str "abcdefghi = 3", .int 9), (tOp (fun x y H Q => ∃ i j, x = V.str i ∧ y = V.str j ∧ i.length + j.length ≤ sizeLine ∧ Q (V.str (i ++ j)) H) (tC (.str "b = ")) (tOp rRepG (tC (.str "7")) (tC (.int 31))), .str (Tx [98, 32, 61, 32, 55, 55, 55, 55, 55, 55, 55, 55, 55, 55, 55, 55, 55, 55, 55, 55, 55, 55, 55, 55, 55, 55, 55, 55, 55, 55, 55, 55, 55, 55, 55]), .int 35), (tC (.str "table = 3"), .str "table = 3", .int 6), (tC (.str "table u 3"), .str "table u 3", .int 6)]) (by decide) (by intro x hx; simp only [List.mem_cons, List.not_mem_nil, or_false] at hx; rcases hx with rfl | rfl | rfl | rfl <;> first | exact fun _ _ _ q => q | exact fun σ H Q q => ⟨55, 31, (by decide +kernel), rfl, by decide, by decide, _, _, rfl, rfl, (by decide +kernel), (show ("b = " : Str) ++ Tx (List.replicate (31 : Int).toNat 55) = Tx [98, 32, 61, 32, 55, 55, 55, 55, 55, 55, 55, 55, 55, 55, 55, 55, 55, 55, 55, 55, 55, 55, 55, 55, 55, 55, 55, 55, 55, 55, 55, 55, 55, 55, 55] from by decide +kernel) ▸ q⟩) rfl e10 a10 (by decide) fun p11 r11 G11 s11 e11 a11 => ?_
    have s11 := s10.trans s11
    refine cat_pairs (ps := [(tC (.str "tables = z"), .str "tables = z", .int 10)]) (by decide) (by intro x hx; simp only [List.mem_cons, List.not_mem_nil, or_false] at hx; rcases hx with rfl <;> exact fun _ _ _ q => q) rfl e11 a11 (by decide) fun p12 r12 G12 s12 e12 a12 => ?_
    have s12 := s11.trans s12
    refine cat_pairs (ps := [(tC (.str "b : 3"), .str "b : 3", .int 3), (tC (.str "b = 3;"), .str "b = 3;", .int 6), (tC (.str "b = x <> 3"), .str "b = x <> 3", .int 8), (tC (.str "b = x / 2"), .str "b = x / 2", .int 7), (tC (.str "b = 3\t"), .str "b = 3\t", .int 6)]) (by decide) (by intro x hx; simp only [List.mem_cons, List.not_mem_nil, or_false] at hx; rcases hx with rfl | rfl | rfl | rfl | rfl <;> exact fun _ _ _ q => q) rfl e12 a12 (by decide) fun p13 r13 G13 s13 e13 a13 => ?_
    have s13 := s12.trans s13
    refine cat_pairs (ps := [(tC (.str "b = x ? 3"), .str "b = x ? 3", .int 7)]) (by decide) (by intro x hx; simp only [List.mem_cons, List.not_mem_nil, or_false] at hx; rcases hx with rfl <;> exact fun _ _ _ q => q) rfl e13 a13 (by decide) fun p14 r14 G14 s14 e14 a14 => ?_
    have s14 := s13.trans s14
    have pen5 := hP.same s14
    have nzp : p14 ≠ p := by
      obtain ⟨_, _, _, _, _, hPA, _⟩ := pen5
      exact ne_of e14 hPA.1 (by intro z; cases z)
    refine ⟨_, rfl, _, rfl, p, lc, p14, B, _, rfl, pen5, by omega, e14, nzp, ?_, ?_, fun y H' hy pen' kp => ?_⟩
    · rw [List.length_map, a14.len]
      decide
    · rw [List.length_map, a14.len]
      decide
    · obtain ⟨r, hr1, rfl⟩ := List.mem_map.mp hy
      obtain ⟨x, hx, hp⟩ := a14.mem hr1
      have ew : ∀ x ∈ ([((V.str "b", V.int 2) : V × V), ((V.str "b ", V.int 3) : V × V), ((V.str "b =", V.int 4) : V × V), ((V.str "b = ", V.int 5) : V × V), ((V.str "= 3", V.int 1) : V × V), ((V.str "B = 3", V.int 1) : V × V), ((V.str "1b = 3", V.int 1) : V × V), ((V.str "b = z", V.int 5) : V × V), ((V.str "a = 3", V.int 1) : V × V), ((V.str "a = z", V.int 1) : V × V), ((V.str "a = x +", V.int 1) : V × V), ((V.str "b = z > 3", V.int 5) : V × V), ((V.str "b = z +", V.int 5) : V × V), ((V.str "t = 3", V.int 1) : V × V), ((V.str "x = 3", V.int 2) : V × V), ((V.str "x", V.int 2) : V × V), ((V.str "b = x +", V.int 8) : V × V), ((V.str "b = x + ", V.int 9) : V × V), ((V.str "b = x > 3", V.int 8) : V × V), ((V.str "b = x >> -1", V.int 10) : V × V), ((V.str "b = x >> a", V.int 10) : V × V), ((V.str "b = x >> 61", V.int 11) : V × V), ((V.str "b = x << 05", V.int 11) : V × V), ((V.str "b = x & 7 + 1", V.int 11) : V × V), ((V.str "b = x 3", V.int 7) : V × V), ((V.str "b = 05", V.int 6) : V × V), ((V.str "b = - 4", V.int 6) : V × V), ((V.str "b = --4", V.int 6) : V × V), ((V.str "b = x - - 4", V.int 10) : V × V), ((V.str "b = x * y", V.int 9) : V × V), ((V.str "b = t", V.int 6) : V × V), ((V.str "b = t[", V.int 7) : V × V), ((V.str "b = t[x", V.int 8) : V × V), ((V.str "b = t[z]", V.int 7) : V × V), ((V.str "b = t[x] + 1", V.int 10) : V × V), ((V.str "b = a[x]", V.int 6) : V × V), ((V.str "b = x + t", V.int 9) : V × V), ((V.str "abcdefghi = 3", V.int 9) : V × V), ((V.str (Tx [98, 32, 61, 32, 55, 55, 55, 55, 55, 55, 55, 55, 55, 55, 55, 55, 55, 55, 55, 55, 55, 55, 55, 55, 55, 55, 55, 55, 55, 55, 55, 55, 55, 55, 55]), V.int 35) : V × V), ((V.str "table = 3", V.int 6) : V × V), ((V.str "table u 3", V.int 6) : V × V), ((V.str "tables = z", V.int 10) : V × V), ((V.str "b : 3", V.int 3) : V × V), ((V.str "b = 3;", V.int 6) : V × V), ((V.str "b = x <> 3", V.int 8) : V × V), ((V.str "b = x / 2", V.int 7) : V × V), ((V.str "b = 3\t", V.int 6) : V × V), ((V.str "b = x ? 3", V.int 7) : V × V)] : List (V × V)), ∃ w ∈ waysL, x = (V.str (Tx w.1), V.int (w.2 : Int)) := by decide +kernel
      obtain ⟨w, hw, rfl⟩ := ew x hx
      have rp : r ≠ p := by
        obtain ⟨_, _, _, _, _, hPA, _⟩ := pen5
        exact ne_of hp hPA.1 (by intro z; cases z)
      exact q r w H' hw (kp _ _ rp hp) ((Kp.of s14).trans kp) pen'
end

end Vf

set_option maxRecDepth 100000
set_option maxHeartbeats 8000000
namespace Vf
open PySem PySem.Spec PyProof.Rows L2
/-! ### the tables that the law draws, and the steps that look into them -/
theorem TabK.imp {H H' : Hp} {kvs : List (Key × V)} {tn : Tn'} (h : TabK H kvs tn) (e : ∀ b zs, H b = some (.lst zs) → H' b = some (.lst zs)) : TabK H' kvs tn := by
  induction h with
  | nil => exact .nil
  | cons a _ ih => exact .cons (e _ _ a) ih
theorem TabK.snoc {H : Hp} {kvs : List (Key × V)} {tn : Tn'} (h : TabK H kvs tn) {a : Addr} {n : List Nat} {zs : List Int} (e : H a = some (.lst (zs.map V.int))) : TabK H (kvs ++ [(.inr (Tx n), .ref a)]) (tn ++ [(n, zs)]) := by
  induction h with
  | nil => exact .cons e .nil
  | cons a _ ih => exact .cons a ih
theorem TabK.keys {H : Hp} {kvs : List (Key × V)} {tn : Tn'} (h : TabK H kvs tn) : kvs.map (fun kv => kV kv.1) = (tn.map (·.1)).map fun n => V.str (Tx n) := by
  induction h with
  | nil => rfl
  | cons a _ ih => rw [List.map_cons, List.map_cons, List.map_cons, ih]; rfl
theorem TabK.none {H : Hp} {kvs : List (Key × V)} {tn : Tn'} (h : TabK H kvs tn) {n : List Nat} : n ∉ tn.map (·.1) → valV kvs (.inr (Tx n)) = none := by
  induction h with
  | nil => intro _; exact valV_nil
  | @cons a m zs kvs tn e _ ih =>
    intro hn
    rw [valV_neg (fun z => hn (by rw [← tx_inj (Sum.inr.inj z)]; exact List.mem_cons_self))]
    exact ih fun z => hn (List.mem_cons_of_mem _ z)
theorem TabK.len {H : Hp} {kvs : List (Key × V)} {tn : Tn'} (h : TabK H kvs tn) : kvs.length = tn.length := by
  induction h with
  | nil => rfl
  | cons a _ ih => rw [List.length_cons, List.length_cons, ih]
theorem StepOk.wide {tn : Tn'} {dn : Dn'} {s : LS} {d : Nat} (h : StepOk [] dn s d) : StepOk tn dn s d := by
  cases h with
  | same a b => exact .same a b
  | add a b c d => exact .add a b c d
  | mul a b c d e f => exact .mul a b c d e f
  | cut a b c d => exact .cut a b c d
  | cell _ _ h _ _ => cases h
def tnamesN : List (List Nat) := [[116], [116, 97, 98, 50]]
theorem tnames_nm : ∀ n ∈ tnamesN, Nm n ∧ n ≠ [120] ∧ n ≠ tableW ∧ n[0]? = some 116 := by
  intro n hn
  simp only [tnamesN, List.mem_cons, List.not_mem_nil, or_false] at hn
  rcases hn with rfl | rfl
  · exact ⟨⟨⟨116, rfl, by decide⟩, by decide, by decide⟩, by decide, by decide, rfl⟩
  · exact ⟨⟨⟨116, rfl, by decide⟩, by decide, by decide⟩, by decide, by decide, rfl⟩
theorem lit_tnames : [V.str ("t" : Str), .str "tab2"] = tnamesN.map fun n => V.str (Tx n) := by decide +kernel
theorem cut_tn {z : Int} (h : z = 0 ∨ z = 1) : cutV [V.str ("t" : Str), .str "tab2"] none (some (1 + z)) = (tnamesN.take (1 + z).toNat).map fun n => V.str (Tx n) := by
  rcases h with rfl | rfl <;> decide +kernel
theorem tnames_new (i : Nat) (n : List Nat) (h : tnamesN[i]? = some n) : n ∉ tnamesN.take i := by
  match i, h with
  | 0, h => intro z; cases z
  | 1, h => cases h; decide
  | i + 2, h => cases h
theorem op91 : (opX [91]).filter (· != 32) = opX [91] := by decide
structure StW (H0 : Hp) (p lc td l2 : Addr) (H : Hp) (rs : List Addr) (ss : List LS) (kvs : List (Key × V)) (tn : Tn') (B : Int) : Prop where
  a1 : H l2 = some (.lst (rs.map V.ref))
  al : All2 (LsAt H) rs ss
  a2 : H td = some (.dK kvs)
  tb : TabK (wo l2 H) kvs tn
  k : Kp p H0 H
  pe : Pen H p lc B
section
variable {H0 : Hp} {p lc td l2 : Addr} {H H' : Hp} {rs : List Addr} {ss : List LS} {kvs : List (Key × V)} {tn : Tn'} {B B' : Int}
theorem wo_imp {a b : Addr} {H H' : Hp} {o : HO} (e : H b = some o → H' b = some o) (h : wo a H b = some o) : wo a H' b = some o := by
  unfold Vf.wo at h ⊢
  by_cases z : b = a
  · rw [if_pos z] at h; cases h
  · rw [if_neg z] at h ⊢; exact e h
theorem StW.same (h : StW H0 p lc td l2 H rs ss kvs tn B) (s : Same H H') : StW H0 p lc td l2 H' rs ss kvs tn B :=
  ⟨s _ _ h.a1, h.al.imp fun r x e => s _ _ e, s _ _ h.a2, h.tb.imp fun b zs e => wo_imp (s _ _) e, h.k.trans (Kp.of s), h.pe.same s⟩
theorem Pen.neTup {H : Hp} {p l a : Addr} {B : Int} {xs : List V} (h : Pen H p l B) (e : H a = some (.tup xs)) : a ≠ p := fun z => by
  obtain ⟨ns, x, d, c, f, ⟨g1, _⟩, _⟩ := h
  rw [z, g1] at e
  cases e
theorem Pen.neLst {H : Hp} {p l a : Addr} {B : Int} {xs : List V} (h : Pen H p l B) (e : H a = some (.lst xs)) : a ≠ p := fun z => by
  obtain ⟨ns, x, d, c, f, ⟨g1, _⟩, _⟩ := h
  rw [z, g1] at e
  cases e
theorem StW.kp (h : StW H0 p lc td l2 H rs ss kvs tn B) (n2 : td ≠ p) (s : Kp p H H') (pe : Pen H' p lc B') : StW H0 p lc td l2 H' rs ss kvs tn B' :=
  ⟨s _ _ (h.pe.neLst h.a1) h.a1, h.al.imp fun r x e => s _ _ (h.pe.neTup e) e, s _ _ n2 h.a2, h.tb.imp fun b zs e => wo_imp (fun e => s _ _ (h.pe.neLst e) e) e, h.k.trans s, pe⟩
theorem StW.more (h : StW H0 p lc td l2 H rs ss kvs tn B) (e : B ≤ B') : StW H0 p lc td l2 H rs ss kvs tn B' := ⟨h.a1, h.al, h.a2, h.tb, h.k, h.pe.more e⟩
theorem StW.put (h : StW H0 p lc td l2 H rs ss kvs tn B) (n1 : H0 l2 = none) (n12 : td ≠ l2) (hp : ∃ o, H0 p = some o) (hl : ∃ o, H0 lc = some o) {r : Addr} {s : LS} (e : LsAt H r s) : StW H0 p lc td l2 (upd H l2 (.lst (rs.map V.ref ++ [V.ref r]))) (rs ++ [r]) (ss ++ [s]) kvs tn B where
  a1 := by rw [List.map_append]; exact upd_same
  al := (h.al.snoc e).lsUpd h.a1 (fun xs z => by cases z)
  a2 := by rw [upd_ne n12]; exact h.a2
  tb := h.tb.imp fun b zs e => by
    unfold Vf.wo at e ⊢
    by_cases z : b = l2
    · rw [if_pos z] at e; cases e
    · rw [if_neg z] at e ⊢
      rw [upd_ne z]
      exact e
  k := kpn_upd h.k n1
  pe := h.pe.upd (fun z => by obtain ⟨o, hp⟩ := hp; rw [z, hp] at n1; cases n1) (fun z => by obtain ⟨o, hl⟩ := hl; rw [z, hl] at n1; cases n1)
end
def spWith : Sp := fun vs H Q _ => ∃ (p lc l : Addr) (B : Int) (rs : List Addr) (ss : List LS) (dn : Dn'), vs = [.ref p, .ref l] ∧ Pen H p lc B ∧ B ≤ 200000 ∧ H l = some (.lst (rs.map V.ref)) ∧ All2 (LsAt H) rs ss ∧ Wf [] ss dn ∧ MadeN ss ∧ ss.length ≤ 12 ∧ (∀ s ∈ ss, StFit s) ∧
  ∀ (t td l2 : Addr) (rs2 : List Addr) (ss2 : List LS) (tn : Tn') (kvs : List (Key × V)) (H' : Hp), H' t = some (.tup [.ref td, .ref l2]) → H' td = some (.dK kvs) → TabK H' kvs tn → TnOk tn → tn.length ≤ 2 → (∀ p ∈ tn, p.2.length ≤ 9) → H' l2 = some (.lst (rs2.map V.ref)) → All2 (LsAt H') rs2 ss2 → Wf tn ss2 dn → ss2.length = ss.length → (∀ s ∈ ss2, StFit s) → td ≠ p → Kp p H H' → Pen H' p lc (B + 1000) → Q (.ref t) H'
section
variable {P : Program} {w : World} {K : PySem.W.Frag} {mg : Str → Option Value} {base : Heap} {CT CA CL CN NO CP CW : Addr}
abbrev sWith : Stmt := topS 47
theorem scWith : FnScope ["_law_pen_here", "_law_steps", "_law_tables", "_law_found", "_law_name", "_law_many", "_law_k", "_law_step", "_law_names", "_law_one"] ["_law_pen_here", "_law_steps"] (defScope sWith) := ⟨rfl, rfl, rfl, by decide +kernel, rfl, by decide +kernel, by decide +kernel⟩
theorem ok_with {f : Addr} {fd : FuncData} (F : Fun K "_law_with_tables" "_law_with_tables" sWith f fd) (T : Bk mg) (hm1 : M1 base) (G__law_draw : Df P w K mg base "_law_draw" 1 ["_law_pen_here", "_law_many"] spDraw) (G__law_pick : Df P w K mg base "_law_pick" 2 ["_law_pen_here", "_law_some"] spPick) : FnOk P w K mg base CX0 3 f fd ["_law_pen_here", "_law_steps"] spWith := by
  refine F.ok scWith (fun vs H Q E h => ?_) (fun cdv A outer s H vs Q E hr h => ?_)
  · obtain ⟨p, lc, l, B, rs, ss, dn, rfl, _⟩ := h
    rfl
  · obtain ⟨p, lc, l, B, rs, ss, dn, rfl, hP, hB, hL, hss, wf, mdn, l12, fit, q⟩ := h
    refine ⟨_, (pss_cons (ps_par (i := 2) (j := 3) (by rfl) scWith.nd rfl rfl (by decide) rfl rfl (pa_cons pe_dnewK (pa_cons (pe_lst pa_nil) pa_nil)) (by rfl))
  (pss_cons (ps_for PassesOwn.never rfl (pi_seq (pe_slice sl_list (pe_lst (pa_cons pe_str (pa_cons pe_str pa_nil))) po_none (po_some (pe_op op_add pe_int (pe_call G__law_draw.ok (hr.mono (by decide)) rfl G__law_draw.m G__law_draw.kp G__law_draw.b .nil pass0 (pa_cons (pv 0) (pa_cons pe_int pa_nil))))))) (pg_name (i := 4) scWith.nd rfl (Or.inl rfl))
    (pss_cons (ps_set (i := 5) scWith.nd rfl (Or.inl rfl) (pe_op op_add pe_int (pe_call G__law_draw.ok (hr.mono (by decide)) rfl G__law_draw.m G__law_draw.kp G__law_draw.b .nil pass0 (pa_cons (pv 0) (pa_cons pe_int pa_nil)))))
    (pss_one (ps_dput (hu1 hr.units) (pv 2) (pv 4) (pe_lc (own := [("_law_k", 6)]) (g := (gName 6)) (tt := tYes) rfl scWith.nd (pi_range1 (by rfl) T.range (pa_cons (pv 5) pa_nil)) (blkOk_by (N := ["_law_pen_here", "_law_steps", "_law_tables", "_law_found", "_law_name", "_law_many", "_law_k", "_law_step", "_law_names", "_law_one"]) (sc := defScope sWith) (by decide +kernel)) (fun _ _ _ _ _ => pg_name (i := 6) scWith.nd rfl (Or.inl rfl)) (fun _ _ _ _ _ => pts_nil) (fun _ _ _ _ _ => (pe_call G__law_pick.ok (hr.mono (by decide)) rfl G__law_pick.m G__law_pick.kp G__law_pick.b .nil pass0 (pa_cons (pv 0) (pa_cons (pe_lst (pa_cons pe_int (pa_cons (pe_un un_neg pe_int) (pa_cons pe_int (pa_cons (pe_op op_pow pe_int pe_int) (pa_cons (pe_call G__law_draw.ok (hr.mono (by decide)) rfl G__law_draw.m G__law_draw.kp G__law_draw.b .nil pass0 (pa_cons (pv 0) (pa_cons pe_int pa_nil))) pa_nil)))))) pa_nil))))) (by rfl)))))
  (pss_cons (ps_for PassesOwn.never rfl (pi_seq (pv 1)) (pg_name (i := 7) scWith.nd rfl (Or.inl rfl))
    (C8.pss_cut (ps_if (pt_cmpR op_eq (pe_call G__law_draw.ok (hr.mono (by decide)) rfl G__law_draw.m G__law_draw.kp G__law_draw.b .nil pass0 (pa_cons (pv 0) (pa_cons pe_int pa_nil))) pe_int (nomark _))
      (pss_cons (ps_set (i := 8) scWith.nd rfl (Or.inl rfl) (pe_op op_cat (pe_lst (pa_cons pe_str pa_nil)) (pe_lc (own := [("_law_one", 9)]) (g := (gName 9)) (tt := tYes) rfl scWith.nd (pi_seq (pv 3)) (blkOk_by (N := ["_law_pen_here", "_law_steps", "_law_tables", "_law_found", "_law_name", "_law_many", "_law_k", "_law_step", "_law_names", "_law_one"]) (sc := defScope sWith) (by decide +kernel)) (fun _ _ _ _ _ => pg_name (i := 9) scWith.nd rfl (Or.inl rfl)) (fun _ _ _ _ _ => pts_nil) (fun _ _ _ _ _ => (pe_ix (r := rIxT K) ix_tup (pv 9) pe_int (fun _ _ => rfl))))))
      (pss_one (ps_set (i := 7) scWith.nd rfl (Or.inl rfl) (pe_tup (pa_cons (pe_ix ix_tup (pv 7) pe_int (fun _ _ => rfl)) (pa_cons pe_str (pa_cons (pe_call G__law_pick.ok (hr.mono (by decide)) rfl G__law_pick.m G__law_pick.kp G__law_pick.b .nil pass0 (pa_cons (pv 0) (pa_cons (pe_callTy (call_list_dK rfl) (by rfl) T.list (by decide +kernel) (pa_cons (pv 2) pa_nil)) pa_nil))) (pa_cons (pe_call G__law_pick.ok (hr.mono (by decide)) rfl G__law_pick.m G__law_pick.kp G__law_pick.b .nil pass0 (pa_cons (pv 0) (pa_cons (pe_op op_cat (pv 8) (pe_lst (pa_cons pe_int (pa_cons pe_int (pa_cons pe_int pa_nil))))) pa_nil))) pa_nil))))))))
      pss_nil)
    (pss_one (ps_expr (pe_bm PySem.F.plainAttrs_list PySem.F.slot_list_append PySem.F.type_list_append mt_append (pv 3) (pa_cons (pv 7) pa_nil))))))
  (pss_one (ps_ret (pe_tup (pa_cons (pv 2) (pa_cons (pv 3) pa_nil)))))))), ?_⟩
    refine fun td ntd => ?_
    have etd : upd H td (HO.dK []) td = some (HO.dK []) := upd_same
    have s1 : Same H (upd H td (HO.dK [])) := same_upd ntd
    generalize upd H td (HO.dK []) = H1 at etd s1 ⊢
    refine ⟨(by show 0 ≤ sizeLine; decide), fun l2 nl2 => ?_⟩
    have el2 : upd H1 l2 (HO.lst []) l2 = some (HO.lst []) := upd_same
    have s2 : Same H1 (upd H1 l2 (HO.lst [])) := same_upd nl2
    generalize upd H1 l2 (HO.lst []) = H2 at el2 s2 ⊢
    refine ⟨_, _, rfl, ?_⟩
    have hl2 : H l2 = none := s1.free nl2
    have n12 : td ≠ l2 := fun e => by rw [e, nl2] at etd; cases etd
    have hp : ∃ o, H p = some o := hP.there
    have hlc : ∃ o, H lc = some o := by
      obtain ⟨ns, x, d, c, f, ⟨_, g2, _⟩, _⟩ := hP
      exact ⟨_, g2⟩
    have pn : ∀ a, H a = none → a ≠ p := fun a ha e => by
      obtain ⟨o, h⟩ := hp
      rw [e, h] at ha
      cases ha
    have tdp := pn _ ntd
    have l2p := pn _ hl2
    have W0 : StW H p lc td l2 H2 [] [] [] [] B := ⟨el2, .nil, s2 _ _ etd, .nil, Kp.of (s1.trans s2), hP.same (s1.trans s2)⟩
    refine ⟨(by show 2 ≤ sizeLine; decide), fun nl nnl => ?_⟩
    have W1 := W0.same (same_upd (o := HO.lst [V.str "t", .str "tab2"]) nnl)
    have enl : upd H2 nl (HO.lst [V.str "t", .str "tab2"]) nl = some (HO.lst [V.str "t", .str "tab2"]) := upd_same
    generalize upd H2 nl (HO.lst [V.str "t", .str "tab2"]) = H3 at W1 enl ⊢
    refine ⟨_, rfl, p, lc, B, 2, rfl, W1.pe, by omega, by decide, by decide, fun z H4 z0 z1 p4 k4 => ?_⟩
    have W2 := W1.kp tdp k4 p4
    refine ⟨_, _, rfl, rfl, _, rfl, nl, _, rfl, SqL.of (k4 _ _ (W1.pe.neLst enl) enl), fun qa nqa => ?_⟩
    rw [cut_tn (show z = 0 ∨ z = 1 by omega)]
    generalize hk : (1 + z).toNat = kt
    have kt2 : kt ≤ 2 := by omega
    have W3 := W2.same (same_upd (o := HO.lst ((tnamesN.take kt).map fun n => V.str (Tx n))) nqa)
    have eqa : upd H4 qa (HO.lst ((tnamesN.take kt).map fun n => V.str (Tx n))) qa = some (HO.lst ((tnamesN.take kt).map fun n => V.str (Tx n))) := upd_same
    generalize upd H4 qa (HO.lst ((tnamesN.take kt).map fun n => V.str (Tx n))) = H5 at W3 eqa ⊢
    have qtd : qa ≠ td := fun e => by rw [e, W3.a2] at eqa; cases eqa
    have ql2 : qa ≠ l2 := fun e => by rw [e, W2.a1] at nqa; cases nqa
    refine ⟨qa, rfl, .inl ⟨_, SqL.of eqa, for_list (xs := (tnamesN.take kt).map fun n => V.str (Tx n)) (fun i σ H6 => ∃ (kvs : List (Key × V)) (tn : Tn') (v4 v5 : Option V), σ = [some (.ref p), some (.ref l), some (.ref td), some (.ref l2), v4, v5, none, none, none, none] ∧ StW H p lc td l2 H6 [] [] kvs tn (B + 1 + 30 * i) ∧ TnOk tn ∧ tn.map (·.1) = tnamesN.take i ∧ (∀ p ∈ tn, p.2.length ≤ 9) ∧ H6 qa = some (HO.lst ((tnamesN.take kt).map fun n => V.str (Tx n))))
      ⟨[], [], none, none, rfl, W3.more (by omega), .nil, rfl, (fun p h => by cases h), eqa⟩ (fun i σ H6 _ ⟨_, _, _, _, _, _, _, _, _, e⟩ => SqL.of e) ?_ ?_⟩⟩
    · rintro i xv σ H6 hx ⟨kvs, tn, v4, v5, rfl, W4, tok, tnm, tl9, eq6⟩
      obtain ⟨n, hn1, rfl⟩ : ∃ n, (tnamesN.take kt)[i]? = some n ∧ xv = V.str (Tx n) := by
        rw [List.getElem?_map] at hx
        cases h : (tnamesN.take kt)[i]? with
        | none => rw [h] at hx; cases hx
        | some n => rw [h] at hx; exact ⟨n, rfl, (Option.some.inj hx).symm⟩
      have ikt : i < kt := by
        have := (List.getElem?_eq_some_iff.mp hn1).1
        rw [List.length_take] at this
        omega
      have hn2 : tnamesN[i]? = some n := by
        rw [List.getElem?_take, if_pos ikt] at hn1
        exact hn1
      obtain ⟨nm, nx, nt, nf⟩ := tnames_nm n (List.mem_of_getElem? hn2)
      have stk : tnamesN.take (i + 1) = tnamesN.take i ++ [n] := by
        have h2 := (List.getElem?_eq_some_iff.mp hn2)
        rw [List.take_succ_eq_append_getElem h2.1, h2.2]
      have nnew : n ∉ tn.map (·.1) := by
        rw [tnm]
        exact tnames_new i n hn2
      refine ⟨_, rfl, p, lc, _, 9, rfl, W4.pe, by omega, by decide, by decide, fun y H7 y0 y1 p7 k7 => ?_⟩
      refine ⟨_, _, rfl, rfl, ?_⟩
      have W5 := W4.kp tdp k7 p7
      have eq7 := k7 _ _ (W4.pe.neLst eq6) eq6
      refine ⟨_, rfl, _, rfl, by omega, by omega, fun D hD => lc_range (lo := 0) (n := (1 + y).toNat) (fun j H' => Pen H' p lc (B + 1 + 30 * i + 1 + 2 * j) ∧ Kp p H7 H' ∧ ∃ zs : List Int, H' D = some (.lst (zs.map V.int)) ∧ zs.length = j ∧ ∀ z ∈ zs, z.natAbs < 2 ^ 97) ?_ ?_ ?_⟩
      · exact ⟨(p7.same (same_upd hD)).more (by omega), Kp.of (same_upd hD), [], upd_same, rfl, fun z h => by cases h⟩
      · rintro j H8 hj ⟨W6, k8, zs, eD, lz, hz⟩
        have dp : D ≠ p := fun e => by
          obtain ⟨o, h⟩ := p7.there
          rw [e, h] at hD
          cases hD
        have dlc : D ≠ lc := fun e => by
          obtain ⟨ns, x, d, c, f, ⟨_, g2, _⟩, _⟩ := p7
          rw [e, g2] at hD
          cases hD
        refine ⟨rfl, ?_⟩
        refine ⟨_, rfl, _, rfl, _, _, rfl, rfl, (by unfold CPow; decide +kernel), _, rfl, p, lc, _, 99, rfl, W6, by omega, by decide, by decide, fun y2 H9 y20 y21 p9 k9 => ?_⟩
        refine ⟨(by show 5 ≤ sizeLine; decide), fun L nL => ?_⟩
        have kL := (k8.trans k9).trans (Kp.of (same_upd (o := HO.lst [V.int 0, .int (-7), .int 3, .int (10 ^ (29 : Int).toNat), .int y2]) nL))
        have pL := p9.same (same_upd (o := HO.lst [V.int 0, .int (-7), .int 3, .int (10 ^ (29 : Int).toNat), .int y2]) nL)
        have Lp : L ≠ p := fun e => by
          obtain ⟨o, h⟩ := p9.there
          rw [e, h] at nL
          cases nL
        refine ⟨p, lc, L, _, _, rfl, pL, by omega, upd_same, Lp, (by show 0 < 5; decide), (by show 5 < 1000000; decide), fun y3 H10 hy3 p10 k10 => ?_⟩
        have k710 := kL.trans k10
        have eD10 : H10 D = some (.lst (zs.map V.int)) := by
          have e9 := k9 _ _ dp eD
          have eL := same_upd (o := HO.lst [V.int 0, .int (-7), .int 3, .int (10 ^ (29 : Int).toNat), .int y2]) nL _ _ e9
          exact k10 _ _ dp eL
        obtain ⟨zz, rfl, hzz⟩ : ∃ zz : Int, y3 = .int zz ∧ zz.natAbs < 2 ^ 97 := by
          simp only [List.mem_cons, List.not_mem_nil, or_false] at hy3
          rcases hy3 with rfl | rfl | rfl | rfl | rfl
          · exact ⟨_, rfl, by decide⟩
          · exact ⟨_, rfl, by decide⟩
          · exact ⟨_, rfl, by decide⟩
          · exact ⟨_, rfl, by decide +kernel⟩
          · exact ⟨_, rfl, by
              have : (99 : Nat) < 2 ^ 97 := by decide
              omega⟩
        refine ⟨_, eD10, (by rw [List.length_map, lz, sizeLine_eq]; omega), (p10.upd dp dlc).more (by omega), kpn_upd k710 hD, zs ++ [zz], by rw [List.map_append]; exact upd_same, by rw [List.length_append, lz]; rfl, fun z h => ?_⟩
        rcases List.mem_append.mp h with h | h
        · exact hz z h
        · rw [List.mem_singleton.mp h]; exact hzz
      · rintro H8 ⟨p8, k8, zs, eD, lz, hz⟩
        have W6 := W5.kp tdp k8 p8
        have eq8 := k8 _ _ (W5.pe.neLst eq7) eq7
        refine ⟨_, rfl, _, rfl, td, _, rfl, DPut.k (k := .inr (Tx n)) W6.a2 (by rw [W6.tb.len, ← List.length_map (as := tn) (·.1), tnm, List.length_take, sizeLine_eq]; omega), ?_⟩
        rw [putK_new _ (W6.tb.none nnew)]
        have dl2 : D ≠ l2 := fun e => by rw [e, W5.a1] at hD; cases hD
        have dtd : D ≠ td := fun e => by rw [e, W5.a2] at hD; cases hD
        refine ⟨kvs ++ [(.inr (Tx n), .ref D)], tn ++ [(n, zs)], _, _, rfl, ⟨by rw [upd_ne n12.symm]; exact W6.a1, .nil, upd_same, ?_, kpn_upd W6.k ntd, (W6.pe.upd tdp (fun e => by obtain ⟨o, h⟩ := hlc; rw [e, h] at ntd; cases ntd)).more (by omega)⟩, tok.snoc nm nx nt nnew ?_ hz, by rw [List.map_append, tnm, stk]; rfl, ?_, by rw [upd_ne qtd]; exact eq8⟩
        · refine TabK.snoc (W6.tb.imp fun b zs e => wo_imp (fun e => ?_) e) ?_
          · rw [upd_ne (fun z => by rw [z, W6.a2] at e; cases e)]
            exact e
          · exact wo_at dl2 (by rw [upd_ne dtd]; exact eD)
        · intro h
          rw [h] at lz
          have lz : 0 = (1 + y).toNat := lz
          omega
        · intro p hp
          rcases List.mem_append.mp hp with h | h
          · exact tl9 p h
          · rw [List.mem_singleton.mp h]
            show zs.length ≤ 9
            omega
    · rintro σ H6 ⟨kvs, tn, v4, v5, rfl, W4, tok, tnm, tl9, _⟩
      have ktl : ((tnamesN.take kt).map fun n => V.str (Tx n)).length = kt := by
        rw [List.length_map, List.length_take]
        show min kt 2 = kt
        omega
      rw [ktl] at W4 tnm
      have tnl : tn.length = kt := by rw [← List.length_map (as := tn) (·.1), tnm, List.length_take]; show min kt 2 = kt; omega
      have tni : ∀ n ∈ tn.map (·.1), n ∈ tnamesN := fun n h => by rw [tnm] at h; exact List.mem_of_mem_take h
      have lp := hP.neLst hL
      refine ⟨_, rfl, l, rfl, .inl ⟨_, SqL.of (W4.k _ _ lp hL), for_list (xs := rs.map V.ref) (fun i σ H7 => ∃ (rs2 : List Addr) (ss2 : List LS) (dn' e : Dn') (v4 v5 v7 v8 : Option V), σ = [some (.ref p), some (.ref l), some (.ref td), some (.ref l2), v4, v5, none, v7, v8, none] ∧ StW H p lc td l2 H7 rs2 ss2 kvs tn (B + 100 + 5 * i) ∧ Wf tn ss2 dn' ∧ Wf [] (ss.take i) dn' ∧ dn = dn' ++ e ∧ ss2.length = i ∧ (∀ s ∈ ss2, StFit s))
        ⟨[], [], [([120], 1)], wf.head.choose, v4, v5, none, none, rfl, W4.more (by omega), .nil, .nil, wf.head.choose_spec, rfl, (fun s h => by cases h)⟩ (fun i σ H7 _ ⟨_, _, _, _, _, _, _, _, _, w, _⟩ => SqL.of (w.k _ _ lp hL)) ?_ ?_⟩⟩
      · rintro i xv σ H7 hx ⟨rs2, ss2, dn', e, v4, v5, v7, v8, rfl, W5, wf2, w3, edn, sl2, fit2⟩
        obtain ⟨r, hr1, rfl⟩ : ∃ r, rs[i]? = some r ∧ xv = V.ref r := by
          rw [List.getElem?_map] at hx
          cases h : rs[i]? with
          | none => rw [h] at hx; cases hx
          | some r => rw [h] at hx; exact ⟨r, rfl, (Option.some.inj hx).symm⟩
        obtain ⟨st, hs1, er⟩ := hss.at hr1
        have rp := hP.neTup er
        have er7 := W5.k _ _ rp er
        obtain ⟨dn2, dg, e2, b1, b2, b3, b4, b5, b6⟩ := wf.at hs1
        have ilt := (List.getElem?_eq_some_iff.mp hs1).1
        have same : dn2 = dn' := by
          have h1 := b1.len
          have h2 := w3.len
          have : dn2 ++ ([(st.name, dg)] ++ e2) = dn' ++ e := by rw [← edn, b6, List.append_assoc]
          exact (List.append_inj this (by rw [h1, h2])).1
        subst same
        have stfit := fit st (List.mem_of_getElem? hs1)
        refine ⟨fun σ' H' => ∃ (r2 : Addr) (s2 : LS) (v8 : Option V), σ' = [some (.ref p), some (.ref l), some (.ref td), some (.ref l2), v4, v5, none, some (.ref r2), v8, none] ∧ StW H p lc td l2 H' rs2 ss2 kvs tn (B + 100 + 5 * i + 4) ∧ LsAt H' r2 s2 ∧ StepOk tn dn2 s2 dg ∧ s2.name = st.name ∧ StFit s2, ?_, ?_⟩
        · refine ⟨_, rfl, p, lc, _, 3, rfl, W5.pe, by omega, by decide, by decide, fun y H8 y0 y1 p8 k8 => ⟨rfl, _, rfl, ?_⟩⟩
          have W6 := W5.kp tdp k8 p8
          have er8 := k8 _ _ (W5.pe.neTup er7) er7
          by_cases hy : y = 0
          · rw [decide_eq_true (show V.int y = V.int 0 by rw [hy])]
            refine iteT ?_
            refine ⟨(by show 1 ≤ sizeLine; decide), fun a na => ?_⟩
            have W7 := W6.same (same_upd (o := HO.lst [V.str "x"]) na)
            have ea : upd H8 a (HO.lst [V.str "x"]) a = some (HO.lst [V.str "x"]) := upd_same
            have er9 := same_upd (o := HO.lst [V.str "x"]) na _ _ er8
            generalize upd H8 a (HO.lst [V.str "x"]) = H9 at W7 ea er9 ⊢
            refine ⟨_, rfl, l2, rfl, lc_seq (xs := rs2.map V.ref) (.inl (SqL.of W7.a1)) (fun D j H4 => Same H9 H4 ∧ H4 D = some (.lst (((ss2.map (·.name)).take j).map fun n => V.str (Tx n)))) ?_ ?_ ?_ ?_⟩
            · intro D nD
              exact ⟨same_upd nD, upd_same⟩
            · intro D j H4 nD ⟨s4, _⟩
              exact ⟨same_sqL s4, same_sqT s4⟩
            · intro D j xv H4 nD hj ⟨s4, eD⟩
              obtain ⟨r2, hr2, rfl⟩ : ∃ r, rs2[j]? = some r ∧ xv = V.ref r := by
                rw [List.getElem?_map] at hj
                cases h : rs2[j]? with
                | none => rw [h] at hj; cases hj
                | some r => rw [h] at hj; exact ⟨r, rfl, (Option.some.inj hj).symm⟩
              obtain ⟨s3, hs3, er3⟩ := W7.al.at hr2
              have er3 : H9 r2 = some (.tup [.str (Tx s3.name), .str (Tx s3.sign), loV s3.one, loV s3.oth]) := er3
              have jl := (List.getElem?_eq_some_iff.mp hs3).1
              refine ⟨rfl, ?_⟩
              refine ⟨_, rfl, r2, _, 0, V.str (Tx s3.name), rfl, rfl, SqT.of (s4 _ _ er3), rfl, ?_⟩
              have stk2 : (ss2.map (·.name)).take (j + 1) = (ss2.map (·.name)).take j ++ [s3.name] := by
                rw [List.take_succ_eq_append_getElem (by rw [List.length_map]; exact jl), List.getElem_map, (List.getElem?_eq_some_iff.mp hs3).2]
              refine ⟨_, eD, (by rw [List.length_map, List.length_take, List.length_map, sizeLine_eq]; omega), fun b o eb => ?_, ?_⟩
              · rw [upd_ne (ne_of_none eb nD)]
                exact s4 _ _ eb
              · rw [upd_same, stk2, List.map_append]
                rfl
            · intro D H10 nD ⟨s4, eD⟩
              rw [List.length_map, W7.al.len, List.take_of_length_le (by rw [List.length_map]; exact Nat.le_refl _)] at eD
              have W8 := W7.same s4
              have er10 := s4 _ _ er9
              refine ⟨a, D, _, _, rfl, rfl, s4 _ _ ea, eD, (by rw [List.length_map, List.length_map, sizeLine_eq]; show 1 + _ ≤ _; omega), fun c nc => ?_⟩
              have enm : [V.str ("x" : Str)] ++ ((ss2.map (·.name)).map fun n => V.str (Tx n)) = (dn2.map (·.1)).map fun n => V.str (Tx n) := by
                rw [wf2.names, lit_x]; rfl
              rw [enm]
              have W9 := W8.same (same_upd (o := HO.lst ((dn2.map (·.1)).map fun n => V.str (Tx n))) nc)
              have ec : upd H10 c (HO.lst ((dn2.map (·.1)).map fun n => V.str (Tx n))) c = some (HO.lst ((dn2.map (·.1)).map fun n => V.str (Tx n))) := upd_same
              have er11 := same_upd (o := HO.lst ((dn2.map (·.1)).map fun n => V.str (Tx n))) nc _ _ er10
              generalize upd H10 c (HO.lst ((dn2.map (·.1)).map fun n => V.str (Tx n))) = H11 at W9 ec er11 ⊢
              refine ⟨_, rfl, r, _, 0, .str (Tx st.name), rfl, rfl, SqT.of er11, rfl, ?_⟩
              refine ⟨_, rfl, _, rfl, td, kvs, rfl, W9.a2, fun q1 nq1 => ?_⟩
              rw [W9.tb.keys]
              have W10 := W9.same (same_upd (o := HO.lst ((tn.map (·.1)).map fun n => V.str (Tx n))) nq1)
              have ec12 := same_upd (o := HO.lst ((tn.map (·.1)).map fun n => V.str (Tx n))) nq1 _ _ ec
              have eq1 : upd H11 q1 (HO.lst ((tn.map (·.1)).map fun n => V.str (Tx n))) q1 = some (HO.lst ((tn.map (·.1)).map fun n => V.str (Tx n))) := upd_same
              generalize upd H11 q1 (HO.lst ((tn.map (·.1)).map fun n => V.str (Tx n))) = H12 at W10 ec12 eq1 ⊢
              refine ⟨p, lc, q1, _, _, rfl, W10.pe, by omega, eq1, W10.pe.neLst eq1, (by rw [List.length_map, List.length_map, tnl]; omega), (by rw [List.length_map, List.length_map, tnl]; omega), fun x1 H13 hx1 p13 k13 => ?_⟩
              obtain ⟨n, hn, rfl⟩ := List.mem_map.mp hx1
              have W11 := W10.kp tdp k13 p13
              have ec13 := k13 _ _ (W10.pe.neLst ec12) ec12
              refine ⟨_, rfl, _, rfl, (by show 3 ≤ sizeLine; decide), fun q2 nq2 => ?_⟩
              have W12 := W11.same (same_upd (o := HO.lst [V.int 0, .int 1, .int 8]) nq2)
              have ec14 := same_upd (o := HO.lst [V.int 0, .int 1, .int 8]) nq2 _ _ ec13
              have eq2 : upd H13 q2 (HO.lst [V.int 0, .int 1, .int 8]) q2 = some (HO.lst [V.int 0, .int 1, .int 8]) := upd_same
              generalize upd H13 q2 (HO.lst [V.int 0, .int 1, .int 8]) = H14 at W12 ec14 eq2 ⊢
              have dl13 : dn2.length ≤ 13 := by rw [wf2.len]; omega
              refine ⟨c, q2, _, _, rfl, rfl, ec14, eq2, (by rw [List.length_map, List.length_map, sizeLine_eq]; show dn2.length + 3 ≤ _; omega), fun q3 nq3 => ?_⟩
              have W13 := W12.same (same_upd (o := HO.lst (((dn2.map (·.1)).map fun n => V.str (Tx n)) ++ [V.int 0, .int 1, .int 8])) nq3)
              have eq3 : upd H14 q3 (HO.lst (((dn2.map (·.1)).map fun n => V.str (Tx n)) ++ [V.int 0, .int 1, .int 8])) q3 = some (HO.lst (((dn2.map (·.1)).map fun n => V.str (Tx n)) ++ [V.int 0, .int 1, .int 8])) := upd_same
              generalize upd H14 q3 (HO.lst (((dn2.map (·.1)).map fun n => V.str (Tx n)) ++ [V.int 0, .int 1, .int 8])) = H15 at W13 eq3 ⊢
              have le : (((dn2.map (·.1)).map fun n => V.str (Tx n)) ++ [V.int 0, .int 1, .int 8]).length = dn2.length + 3 := by rw [List.length_append, List.length_map, List.length_map]; rfl
              refine ⟨p, lc, q3, _, _, rfl, W13.pe, by omega, eq3, W13.pe.neLst eq3, (by rw [le]; omega), (by rw [le]; omega), fun x2 H16 hx2 p16 k16 => ?_⟩
              obtain ⟨o, rfl, ho⟩ : ∃ o : LOp, x2 = loV o ∧ InOp (dn2.map (·.1)) o := by
                rcases List.mem_append.mp hx2 with h | h
                · obtain ⟨m, hm, rfl⟩ := List.mem_map.mp h
                  exact ⟨.nm m, rfl, hm⟩
                · simp only [List.mem_cons, List.not_mem_nil, or_false] at h
                  rcases h with rfl | rfl | rfl
                  · exact ⟨.nu 0, rfl, by show (0 : Int).natAbs < 2 ^ 97; decide⟩
                  · exact ⟨.nu 1, rfl, by show (1 : Int).natAbs < 2 ^ 97; decide⟩
                  · exact ⟨.nu 8, rfl, by show (8 : Int).natAbs < 2 ^ 97; decide⟩
              have W14 := W13.kp tdp k16 p16
              obtain ⟨dd, _, okd, _, nmo, zo⟩ := ho.deg wf2.d4 wf2.nm
              have tnm2 := tnames_nm n (tni n hn)
              refine ⟨(by show 4 ≤ sizeLine; decide), fun r2 nr2 => ?_⟩
              exact ⟨r2, ⟨st.name, [91], .nm n, o⟩, some (.ref c), rfl, (W14.same (same_upd nr2)).more (by omega), (by rw [lit_open]; exact upd_same), .cell rfl rfl hn okd b3, rfl, ⟨⟨(by show 1 ≤ 2; decide), tnm2.1.len, zo⟩, tnm2.1, nmo, stfit.2.2.2.1, op91⟩⟩
          · rw [decide_eq_false (fun z => hy (V.int.inj z))]
            refine iteF ?_
            exact ⟨r, st, v8, rfl, W6.more (by omega), er8, b2.wide, rfl, stfit⟩
        rintro σ' H8 ⟨r2, s2, v8, rfl, W6, er2, ok2, nm2, fit3⟩
        have rl2 : rs2.length = i := by rw [W6.al.len, sl2]
        refine ⟨_, rfl, .inl ⟨rfl, _, SqL.of W6.a1⟩, _, rfl, l2, _, _, rfl, rfl, W6.a1, (by rw [List.length_map, rl2, sizeLine_eq]; omega), ?_⟩
        have W7 := W6.put hl2 n12 hp hlc er2
        have new2 : NewOk tn dn2 s2.name := by
          rw [nm2]
          refine ⟨b4.nm, b4.nx, b4.nt, b4.nd, fun h => ?_⟩
          obtain ⟨b, hb, e⟩ := mdn i st hs1
          have h1 := (nmB_ok (bases_ok b hb i (by omega))).2.2
          rw [← e] at h1
          exact h1 (tnames_nm _ (tni _ h)).2.2.2
        have wf3 : Wf tn (ss2 ++ [s2]) (dn2 ++ [(st.name, dg)]) := by
          have := Wf.snoc wf2 ok2 b3 new2
          rw [nm2] at this
          exact this
        refine ⟨rs2 ++ [r2], ss2 ++ [s2], dn2 ++ [(st.name, dg)], e2, _, _, _, _, rfl, W7.more (by omega), wf3, b5, b6, by rw [List.length_append, sl2]; rfl, fun s hs => ?_⟩
        rcases List.mem_append.mp hs with h | h
        · exact fit2 s h
        · rw [List.mem_singleton.mp h]; exact fit3
      · rintro σ H7 ⟨rs2, ss2, dn', e, v4, v5, v7, v8, rfl, W5, wf2, w3, edn, sl2, fit2⟩
        rw [List.length_map, hss.len] at W5 sl2 w3
        have en : e = [] := by
          have h1 := wf.len
          have h2 := wf2.len
          rw [edn, List.length_append] at h1
          exact List.length_eq_zero_iff.mp (by omega)
        subst en
        rw [List.append_nil] at edn
        subst edn
        refine ⟨_, rfl, _, rfl, (by show 2 ≤ sizeLine; decide), fun tq ntq => ?_⟩
        have W6 := W5.same (same_upd (o := HO.tup [V.ref td, .ref l2]) ntq)
        exact q tq td l2 rs2 ss2 tn kvs _ upd_same W6.a2 (W6.tb.imp fun b zs e => wo_sub _ _ e) tok (by omega) tl9 W6.a1 W6.al wf2 sl2 fit2 tdp W6.k (W6.pe.more (by omega))
end

end Vf

set_option maxRecDepth 100000
set_option maxHeartbeats 4000000
/-! a try whose first clauses, named, are looked at; clauses behind them are never come to -/
namespace Vf
open PySem PySem.Spec PyProof.Rows L2
inductive Some1 (X : Cx) (i : Nat) : List ExceptHandler → List (Value × (Addr → Value → Option Addr → TS)) → Prop
  | any (hds : List ExceptHandler) : Some1 X i hds []
  | cons {x n : Str} {c : Value} {ts : Addr → Value → Option Addr → TS} {b : Stmt} {bs : List Stmt} {p q : Pos} {hds : List ExceptHandler} {l : List (Value × (Addr → Value → Option Addr → TS))} (nm : Names X x c) (at_ : X.N[i]? = some n) (lo : X.env.kindOf n = some .local)
      (su : ∀ (a : Addr) (oe : Obj) (cls : Value) (d : Option Addr) (pn : List (Addr × Obj)), Zc cls d oe → (∃ vs, oe.data = .fields vs) → PSs (X.suite a ((a, oe) :: pn)) (b :: bs) (ts a cls d)) (t : Some1 X i hds l) :
      Some1 X i (.ExceptHandler (some (.Name x p)) (some n) (b :: bs) q :: hds) ((c, ts) :: l)
section
variable {X : Cx} {i : Nat} {body : List Stmt} {h1 : ExceptHandler} {hs : List ExceptHandler} {l : List (Value × (Addr → Value → Option Addr → TS))} {pos : Pos} {tb : WX → TS} {Wo : WX}
theorem ps_try_some (st : X.stack = X.env :: X.outer) (fr : X.env.frame = some X.env.locals) (nd : X.N.Nodup)
    (bd : ∀ (W : WX) (pn : List (Addr × Obj)) (xe : Value → Shared → Prop), Takes (X.tr pn xe) W → PassesOwn (model X.prog X.w) X.A X.env xe → PSs (X.tr pn xe) body (tb W)) (hd : Some1 X i (h1 :: hs) l) :
    PS X (.Try body (h1 :: hs) [] [] pos) (fun D σ H => tb (wEach X.K i (fun _ _ _ _ => False) D l) D σ H) := by
  refine ⟨fun pins s σ H D I h => wpAny_Try_except ?_⟩
  have ok := I.ok
  have A1 : X.A.frames = some (X.env :: X.outer) := ok.frames.trans (congrArg some st)
  have run := (bd (wEach X.K i (fun _ _ _ _ => False) D l) (X.pn ++ pins) (fun e s1 => wpAny (model X.prog X.w) X.A (noteFrame e X.env) (fun _ s2 => wpAny (model X.prog X.w) X.A (setFlight e none) (fun _ s3 => wpAny (model X.prog X.w) X.A (handleBy e X.env (h1 :: hs)) (SP X pins D) X.xe s3) X.xe s2) X.xe s1)
    (fun u s' xx => ?_) PassesOwn.looking).run [] s σ H D (I.toTry _) h
  · refine wpAny_mono run (fun f s1 z => ?_) fun e s1 z => z
    match f, z with
    | .next, ⟨σ', H', J, q⟩ => exact wpAny_execs_nil ⟨σ', H', J.ofTry ok, q⟩
    | .brk, ⟨σ', H', J, q⟩ => exact ⟨σ', H', J.ofTry ok, q⟩
    | .cont, ⟨σ', H', J, q⟩ => exact ⟨σ', H', J.ofTry ok, q⟩
    | .ret u, ⟨v, σ', H', J, r, q⟩ => exact ⟨v, σ', H', J.ofTry ok, r, q⟩
  · obtain ⟨a, B, sI, pins', σ1, H1, cls, d, ea, J', nb, up, sky, na, os, ag, w⟩ := xx
    subst ea
    have J : Inv X pins σ1 H1 sI := J'.ofTry ok
    rw [st] at sky
    show wpAny (model X.prog X.w) X.A (noteFrame (.ref a) X.env) _ _ _
    refine Sky.land Zc.steady A1 fr sky fun h3 fl up3 => ?_
    have J3 : Inv X pins σ1 H1 { s' with heap := h3 } := J.landed nb fl.1 (up.trans up3) os ag
    obtain ⟨oe, vs, he, hz, hdt⟩ := fl.there
    have out : a ∉ frs (X.env :: X.outer) := fun m => by
      obtain ⟨_, o2, e2, ne⟩ := fl.2.2.1.mem m
      rw [he] at e2
      cases e2
      exact ne _ hdt
    have notL : a ≠ X.env.locals := fun z => out (List.mem_filterMap.mpr ⟨X.env, List.mem_cons_self, by rw [fr, z]⟩)
    have notF : a ∉ X.fs := fun m => by
      obtain ⟨e, he, q⟩ := List.mem_filterMap.mp m
      exact out (List.mem_filterMap.mpr ⟨e, List.mem_cons_of_mem _ he, q⟩)
    have S3 := J3.suite he hdt na notL notF
    have ty : PySem.W.Looks (model X.prog X.w) h3 (typeOf (.ref a)) cls := fun A Q E s k q => wpAny_typeOf_ref (k _ _ he) (by rw [hz.1]; exact q)
    have each : ∀ (hs2 : List ExceptHandler) (l2 : List (Value × (Addr → Value → Option Addr → TS))), Some1 X i hs2 l2 → wEach X.K i (fun _ _ _ _ => False) D l2 cls d σ1 H1 → wpAny (model X.prog X.w) X.A (handleBy (.ref a) X.env hs2) (SP X pins D) X.xe { s' with heap := h3 } := by
      intro hs2 l2 hk
      induction hk with
      | any hds =>
        intro wo
        exact False.elim wo
      | @cons x n c ts b bs p q hds l3 nm at_ lo su t ih =>
        intro wo
        obtain ⟨k, hk, yes, no⟩ := wo
        refine wpAny_handleBy_cons (codeAny_handlers_test ?_) (by intro q; cases q)
        have LM := PySem.W.exm_one (M := model X.prog X.w) (J3.kIn) ty hk
        have see : ∀ {Q : Value → Shared → Prop} {E : Value → Shared → Prop}, Q c { s' with heap := h3 } → wpAny (model X.prog X.w) (X.A.mark (some (.ref a))) (eval (.Name x p) X.env) Q E { s' with heap := h3 } := by
          intro Q E q
          obtain ⟨g1, g2, g3 | ⟨g3, g4, g5⟩⟩ := nm
          · exact ld_glob (X := X.suite a ((a, oe) :: (X.pn ++ pins))) S3 g1 g3 q g2
          · exact ld_blt (X := X.suite a ((a, oe) :: (X.pn ++ pins))) S3 g1 g3 g4 q g5 g2
        refine see (LM.here ?_)
        cases k with
        | false =>
          show wpAny _ X.A (handleBy (.ref a) X.env hds) _ _ _
          exact ih (no rfl)
        | true =>
          refine codeAny_handlers_suite_as (HandSPX.lands_againZ fl fun h4 fl4 up4 => ?_)
          have J4 : Inv X pins σ1 H1 { s' with heap := h4 } := J.landed nb fl4.1 ((up.trans up3).trans up4) os ag
          obtain ⟨o4, v4, e4, z4, d4⟩ := fl4.there
          have S4 := J4.suite e4 d4 na notL notF
          refine store_ok (X := X.suite a ((a, o4) :: (X.pn ++ pins))) (v := .ref a) S4 nd at_ (.inl lo) rfl (fun s5 S5 => ?_) (.inr lo)
          refine wpAny_mono ((su a o4 cls d (X.pn ++ pins) z4 ⟨_, d4⟩).run [] s5 _ H1 _ S5 (yes rfl a na)) (fun f s6 z => ?_) (fun _ _ z => False.elim z)
          have away : ∀ {σ6 : L2.St} {H6 : Hp} {Q : Shared → Prop}, Inv (X.suite a ((a, o4) :: (X.pn ++ pins))) [] σ6 H6 s6 → (∀ s7, Inv X pins (σ6.set i none) H6 s7 → Q s7) →
              wpAny (model X.prog X.w) X.A (do bindName X.env n .none; unbindBehindTheSuite X.env n q) (fun _ s7 => Q s7) X.xe s6 := fun S6 g => gone_ok (S6.unsuite ok) nd at_ lo g
          match f, z with
          | .next, ⟨σ6, H6, S6, g⟩ => exact away S6 fun s7 J7 => ⟨_, _, J7, g⟩
          | .brk, ⟨σ6, H6, S6, g⟩ => exact away S6 fun s7 J7 => ⟨_, _, J7, g⟩
          | .cont, ⟨σ6, H6, S6, g⟩ => exact away S6 fun s7 J7 => ⟨_, _, J7, g⟩
          | .ret u, ⟨v6, σ6, H6, S6, r6, g⟩ => exact away S6 fun s7 J7 => ⟨_, _, _, J7, r6, g⟩
    exact each _ _ hd w
end
end Vf

set_option maxRecDepth 100000
set_option maxHeartbeats 4000000
/-! isinstance of an exception that has a dict of its own -/
namespace PySem.W
open PySem PySem.Spec PyProof.Rows
section
variable {K : Frag} {x D : Addr} {ox od : Obj}
theorem vf_find_data {name : Str} {a g : Value} (hc : (clsIn K D).isSome = true) (ha : findIn K (.ref D) name = some (some a)) (hg : specialIn K a "__get__" = some (some g)) (ht : takesIn K a = some true) : findObj K D (some od) name = some (.bind g a) := by
  obtain ⟨cd, hc⟩ := Option.isSome_iff_exists.mp hc
  unfold findObj
  rw [hc, Option.bind_some, ha, Option.bind_some]
  simp [hg, ht]
variable {prog : Program} {w : World} {A : Around} {E : Value → Shared → Prop} {s : Shared}
theorem vf_class {Q : Option Value → Shared → Prop} (hga : findIn K (.ref D) "__getattribute__" = some (some (.builtin "BaseException.__getattribute__"))) (hgt : findIn K (.ref D) "__getattr__" = some none) (hsub : subIn K (.ref D) (.type "BaseException") = some true)
    (hdct : hasDictIn K D = true) (ha : findIn K (.ref D) "__class__" = some (some (.builtin "object.__class__")))
    (hn : specialIn K (.builtin "object.__class__") "__get__" = some (some (.builtin "getset_descriptor.__get__"))) (htk : takesIn K (.builtin "object.__class__") = some true) (hm : mroIn K D (.type "object") = some true)
    (X : K.In s.heap) (I : InstAt s.heap x ox D (some od)) (h : Q (some (.ref D)) { s with toks := s.toks + 1 }) : wpAny (model prog w) A (getAttr? (.ref x) "__class__") Q E s := by
  have hf : findObj K D (some od) "__class__" = some (.bind (.builtin "getset_descriptor.__get__") (.builtin "object.__class__")) := vf_find_data (by obtain ⟨cd, hc, _⟩ := any_some hdct; rw [hc]; rfl) ha hn htk
  obtain ⟨hp, g, d, t, os⟩ := s
  have T0 := I.type (M := model prog w)
  have T1 := looks_findIn (M := model prog w) X hga
  have T2 := looks_findIn (M := model prog w) X hgt
  have T3 := looks_find (M := model prog w) X I hf
  have sub : Looks (model prog w) hp (isInstance (.ref x) (.type "BaseException")) true := T0.andThen (looks_subIn X hsub)
  have y0 : (false && onTheHeap (Value.builtin "BaseException.__getattribute__")) = false := rfl
  have y1 : (onTheHeap (Value.ref D) && Value.builtin "BaseException.__getattribute__" == Value.builtin "object.__getattribute__") = false := by
    rw [show (Value.builtin "BaseException.__getattribute__" == Value.builtin "object.__getattribute__") = false by decide +kernel]
    rfl
  unfold getAttr? getAttrBy? getAttrBy
  refine wpAny_bind (wpAny_mkText (wpAny_bind (wpAny_attempt (wpAny_holding (wpAny_bind (T0.at (wpAny_bind (T1.at ?_))))))))
  show wpAny _ _ (if (onTheHeap (Value.ref D) && Value.builtin "BaseException.__getattribute__" == Value.builtin "object.__getattribute__") = true then _ else _) _ _ _
  rw [y1, if_neg Bool.false_ne_true]
  unfold getAttrByItsOwn hookBefore
  refine wpAny_bind ?_
  rw [if_pos (show onTheHeap (Value.ref D) = true from rfl)]
  refine T2.at ?_
  refine wpAny_bind (wpAny_attempt (wpAny_holding ?_))
  unfold callGetattribute
  rw [y0, if_neg Bool.false_ne_true]
  unfold boundAndCalled
  rw [PySem.F.excAttr_ValueError.ga.bind (.ref x)]
  refine wpAny_bind (wpAny_pure ?_)
  show wpAny _ _ (call (.builtin "BaseException.__getattribute__") [.ref x, .str "__class__" t]) _ _ _
  refine wpAny_call (codeAny_call_builtin PySem.F.excAttr_ValueError.ga.plain PySem.F.entry_bexc_ga ?_)
  refine @check_slot (model prog w) _ _ ⟨hp, g, d, t + 1, os⟩ "BaseException.__getattribute__" "BaseException" "__getattribute__" (.ref x) [.str "__class__" t] [] _ (by decide +kernel) (by decide +kernel) sub (PySem.F.args_bexc_ga (.ref x) (.str "__class__" t)) ?_
  unfold Builtin.«object.__getattribute__»
  refine wpAny_bind (wpAny_of_eq (a := ((Value.ref x : Value), [Value.str "__class__" t])) (by first | rfl | (simp only [slotArgs]; rfl)) ?_)
  refine wpAny_bind (wpAny_pure (wpAny_bind (T0.at (wpAny_bind (T3.at ?_)))))
  show wpAny _ _ (holding [Value.builtin "object.__class__"] (call (.builtin "getset_descriptor.__get__") [.builtin "object.__class__", .ref x, .ref D]) >>= ret) _ _ _
  refine wpAny_bind (wpAny_holding (wpAny_call (class_get (s := ⟨hp, g, d, t + 1, os⟩) (ox := ox) (od := some od) X I hm ?_)))
  refine wpAny_pure ?_
  show wpAny _ _ (handedOut (.ref D)) _ _ _
  rw [handedOut_of (v := .ref D) rfl]
  first
    | exact wpAny_pure (wpAny_pure h)
    | exact wpAny_pure h
    | exact wpAny_pure (wpAny_bind (wpAny_pure (wpAny_pure h)))
theorem vf_kit (hga : findIn K (.ref D) "__getattribute__" = some (some (.builtin "BaseException.__getattribute__"))) (hgt : findIn K (.ref D) "__getattr__" = some none) (hsub : subIn K (.ref D) (.type "BaseException") = some true) (hdct : hasDictIn K D = true) (ha : findIn K (.ref D) "__class__" = some (some (.builtin "object.__class__")))
    (hn : specialIn K (.builtin "object.__class__") "__get__" = some (some (.builtin "getset_descriptor.__get__"))) (htk : takesIn K (.builtin "object.__class__") = some true) (hm : mroIn K D (.type "object") = some true) :
    KitX K (.ref x) (.ref D) (fun h => InstAt h x ox D (some od)) where
  ty := fun _ _ _ I => I.type
  it := fun _ _ X _ => by
    obtain ⟨cdD, hcD, _⟩ := any_some hdct
    unfold clsIn at hcD
    split at hcD
    · rename_i c' d' cd' sl' ho
      intro A' Q' E' s' k q
      unfold isType loadHead
      exact wpAny_bind (wpAny_loadPart (k _ _ (X _ _ ho)) (wpAny_pure q))
    · cases hcD
  ne := fun h tp dd its n sl X htp => by
    obtain ⟨cdD, hcD, _⟩ := any_some hdct
    refine Bool.eq_false_iff.mpr fun q => ?_
    have e : D = tp := Value.ref.inj (beq_iff_eq.mp q)
    subst e
    unfold clsIn at hcD
    split at hcD
    · rename_i c' d' cd' sl' ho
      have z := (X _ _ ho).symm.trans htp
      cases z
    · cases hcD
  ca := fun X I k => vf_class hga hgt hsub hdct ha hn htk hm X I k
end
end PySem.W
namespace Vf
open PySem PySem.Spec PyProof.Rows L2
/-- isinstance(e, c), e the exception that the suite holds, with a dict of its own -/
def rIsX (K : PySem.W.Frag) (D a : Addr) (d : Option Addr) : List V → Hp → VK → Prop := fun xs H Q => ∃ (c : V) (cv : Value) (b : Bool) (dd : Addr) (fs : List (Str × V)), d = some dd ∧ H dd = some (.xd fs) ∧ xs = [.ref a, c] ∧ (∀ u, RelV c u → u = cv) ∧ PySem.W.kitOne K (.ref D) cv = some b ∧ Q (.bl b) H
theorem call_isX {X : Cx} {a D : Addr} {oe : Obj} {cls : Value} {d : Option Addr} {pn : List (Addr × Obj)} (C : ExcC X.K D) (hz : Zc cls d oe) (hf : ∃ vs, oe.data = .fields vs) : CallR (X.suite a ((a, oe) :: pn)) (.builtin "isinstance") (fun xs H Q => cls = .ref D ∧ rIsX X.K D a d xs H Q) := by
  intro pins s σ H xs us Q I r h
  obtain ⟨rfl, c, cv, b, dd, fs, rfl, ea, rfl, hcv, e, q⟩ := h
  cases r with
  | cons rx rr =>
    cases rr with
    | cons rt rr =>
      cases rr
      cases rx
      have ec := hcv _ rt
      subst ec
      obtain ⟨hget, _⟩ := I.pin (a, oe) (List.mem_append.mpr (.inl List.mem_cons_self))
      obtain ⟨vs, hv⟩ := hf
      have hx : ObjOk X.prog X.w H s.heap dd (.xd fs) := I.hok dd _ ea
      obtain ⟨mA, hns, hr⟩ := hx
      obtain ⟨od, ho, hl⟩ := lookIn_ns hns
      have J : PySem.W.InstAt s.heap a oe D (some od) := ⟨hget, hz.1, by unfold PySem.W.notCls; rw [hv] <;> rfl, by rw [hz.2]; exact ho⟩
      exact PySem.W.kia_one (PySem.W.vf_kit C.hg C.hk C.hs C.hd C.ha C.hn C.ht C.hm) I.kIn J e (fun z => nomatch z) fun tk => ⟨.bl b, H, I.kept (t' := tk) fun _ _ z => z, rfl, q⟩
end Vf

set_option maxRecDepth 100000
set_option maxHeartbeats 8000000
namespace Vf
open PySem PySem.Spec PyProof.Rows L2
/-! ### the law's why -/
open LamX (ExtN Tabs TabS)
def WhyE (C : Nat → Addr) (Q : VK) : XK := fun cls d H =>
  (cls = .ref (C 0) ∧ ∃ (dd : Addr) (l c : Int), d = some dd ∧ H dd = some (.xd (fl ["line", "column"] [.int l, .int c])) ∧ ∀ (t : Addr) (H' : Hp), Same H H' → H' t = some (.lst [.int l, .int c, .bl true]) → Q (.ref t) H')
  ∨ (cls = .ref (C 1) ∧ ∃ (dd : Addr) (wh : Str) (v : V), d = some dd ∧ H dd = some (.xd (fl ["what", "number"] [.str wh, v])) ∧ ∀ (t : Addr) (H' : Hp), Same H H' → H' t = some (.lst [.str wh, v, .bl true]) → Q (.ref t) H')
  ∨ (cls = .ref (C 2) ∧ d = none ∧ ∀ (t : Addr) (H' : Hp), Same H H' → H' t = some (.lst [.str "wide", .bl true]) → Q (.ref t) H')
def TWhy (C : Nat → Addr) : (XK → Hp → VK → Prop) → Hp → VK → Prop := fun tl H Q => ∀ (H1 : Hp) (k : VK), Same H H1 → tl (WhyE C Q) H1 k
structure W76 (K : PySem.W.Frag) (mg : Str → Option Value) (C : Nat → Addr) (CE : Addr) : Prop where
  mL : mg "BadLine" = some (.ref (C 0))
  mN : mg "BadNumber" = some (.ref (C 1))
  mW : mg "TooWide" = some (.ref (C 2))
  mC : mg "CurveError" = some (.ref CE)
  isin : mg "isinstance" = none
  xf0 : XfC K (C 0)
  xf1 : XfC K (C 1)
  ec0 : ExcC K (C 0)
  ec1 : ExcC K (C 1)
  ec2 : ExcC K (C 2)
  k0 : PySem.W.kitOne K (.ref (C 0)) (.ref CE) = some true
  k1 : PySem.W.kitOne K (.ref (C 1)) (.ref CE) = some true
  k2 : PySem.W.kitOne K (.ref (C 2)) (.ref CE) = some true
  ex00 : PySem.W.exmOne K (.ref (C 0)) (.ref (C 0)) = some true
  ex10 : PySem.W.exmOne K (.ref (C 1)) (.ref (C 0)) = some false
  ex11 : PySem.W.exmOne K (.ref (C 1)) (.ref (C 1)) = some true
  ex20 : PySem.W.exmOne K (.ref (C 2)) (.ref (C 0)) = some false
  ex21 : PySem.W.exmOne K (.ref (C 2)) (.ref (C 1)) = some false
  ex22 : PySem.W.exmOne K (.ref (C 2)) (.ref (C 2)) = some true
  nrL : PySem.W.findIn K (.ref (C 0)) "line" = some none
  nrC : PySem.W.findIn K (.ref (C 0)) "column" = some none
  nrW : PySem.W.findIn K (.ref (C 1)) "what" = some none
  nrN : PySem.W.findIn K (.ref (C 1)) "number" = some none
theorem takes_len {X : Cx} {W : WX} (tk : Takes X W) : Takes X (fun cls d σ H => σ.length = X.N.length → W cls d σ H) := fun u s' z => by
  obtain ⟨a, B, sI, pins, σ, H, cls, d, e, J, nb, up, sky, na, os, ag, w⟩ := z
  exact tk u s' ⟨a, B, sI, pins, σ, H, cls, d, e, J, nb, up, sky, na, os, ag, w J.len⟩
/-! ### what stands while lambdas are made -/
open LamX (ExtN Tabs TabS)
theorem call_isN {X : Cx} {a D : Addr} {oe : Obj} {cls : Value} {d : Option Addr} {pn : List (Addr × Obj)} (C : ExcC X.K D) (hz : Zc cls d oe) (hf : ∃ vs, oe.data = .fields vs) : CallR (X.suite a ((a, oe) :: pn)) (.builtin "isinstance") (fun xs H Q => cls = .ref D ∧ d = none ∧ rIsE X.K D a xs H Q) := by
  intro pins s σ H xs us Q I r h
  obtain ⟨rfl, rfl, h⟩ := h
  exact call_isE C hz hf pins s σ H xs us Q I r h
abbrev sWhy : Stmt := topS 46
theorem scWhy : FnScope ["_law_call", "e"] ["_law_call"] (defScope sWhy) := ⟨rfl, rfl, rfl, by decide +kernel, rfl, by decide +kernel, by decide +kernel⟩
theorem why_gives {X : Cx} {q : Str} {g : Addr} {cdg : Value} {C : Nat → Addr} {CE : Addr} (T : W76 X.K X.mg C CE) :
    LamX.GivesTo X ["_law_call", "e"] "_law_why" (defScope sWhy) g cdg (defBody sWhy) "_law_call" q (TWhy C) := by
  intro f c' s H Q tl act hc h
  refine ⟨_, pss_cons (ps_try_some (X := (cxOf C8.CX0 X.prog X.w X.K X.mg X.base ["_law_call", "e"] "_law_why" (defScope sWhy) g cdg X.A X.stack s H C8.E0).nox) (i := 1)
      (l := [(.ref (C 0), _), (.ref (C 1), _), (.ref (C 2), _)])
      (tb := fun W D σ H => ∃ Ech : XK, (∀ cls d σ' H', Ech cls d H' → σ'.length = 2 → W cls d σ' H') ∧ σ[0]? = some (some (.ref f)) ∧ H c' = some (LamX.CodeO c' q) ∧ tl Ech H fun _ H' => D.nx σ H')
      rfl rfl scWhy.nd (fun W pn xe tk _ => ?_)
      (.cons ⟨rfl, by decide, .inl T.mL⟩ rfl rfl (fun a oe cls d pn hz hf => pss_one (ps_ret (pe_lst (pa_cons (pe_xf T.xf0 T.nrL hz hf (pv 1)) (pa_cons (pe_xf T.xf0 T.nrC hz hf (pv 1)) (pa_cons (pe_callB (call_isX T.ec0 hz hf) (by rfl) T.isin (by decide +kernel) (pa_cons (pv 1) (pa_cons (pe_glob (v := V.ref CE) rfl T.mC rfl) pa_nil))) pa_nil))))))
      (.cons ⟨rfl, by decide, .inl T.mN⟩ rfl rfl (fun a oe cls d pn hz hf => pss_one (ps_ret (pe_lst (pa_cons (pe_xf T.xf1 T.nrW hz hf (pv 1)) (pa_cons (pe_xf T.xf1 T.nrN hz hf (pv 1)) (pa_cons (pe_callB (call_isX T.ec1 hz hf) (by rfl) T.isin (by decide +kernel) (pa_cons (pv 1) (pa_cons (pe_glob (v := V.ref CE) rfl T.mC rfl) pa_nil))) pa_nil))))))
      (.cons ⟨rfl, by decide, .inl T.mW⟩ rfl rfl (fun a oe cls d pn hz hf => pss_one (ps_ret (pe_lst (pa_cons pe_str (pa_cons (pe_callB (call_isN T.ec2 hz hf) (by rfl) T.isin (by decide +kernel) (pa_cons (pv 1) (pa_cons (pe_glob (v := V.ref CE) rfl T.mC rfl) pa_nil))) pa_nil))))) (.any _)))))
    (pss_one (ps_ret (pe_lst pa_nil))), ?_⟩
  · refine ⟨fun pins s' σ H' D I h' => ?_⟩
    obtain ⟨Ech, hW, h1, h2, h3⟩ := h'
    exact (pss_one (ps_expr (act _ pn xe Ech _ _ (takes_len tk) (fun cls d σ' H' z len => hW cls d σ' H' z len)))).run pins s' σ H' D I ⟨h1, h2, h3⟩
  · refine ⟨WhyE C Q, fun cls d σ' H' z len => ?_, rfl, hc, ?_⟩
    · obtain ⟨x0, x1, rfl⟩ : ∃ x0 x1, σ' = [x0, x1] := by
        match σ', len with
        | [x0, x1], _ => exact ⟨x0, x1, rfl⟩
      rcases z with ⟨rfl, dd, l, c, rfl, hdd, k⟩ | ⟨rfl, dd, wh, v, rfl, hdd, k⟩ | ⟨rfl, rfl, k⟩
      · refine ⟨true, T.ex00, fun _ a na => ?_, fun z => nomatch z⟩
        refine ⟨.ref a, rfl, rfl, rfl, dd, _, .int l, rfl, hdd, (by kernel_rfl), .ref a, rfl, rfl, rfl, dd, _, .int c, rfl, hdd, (by kernel_rfl), _, rfl, rfl, .ref CE, .ref CE, true, dd, _, rfl, hdd, rfl, (fun u hu => hu), T.k0, (by show 3 ≤ sizeLine; decide), fun t nt => ?_⟩
        exact k t _ (same_upd nt) upd_same
      · refine ⟨false, T.ex10, (fun z => nomatch z), fun _ => ⟨true, T.ex11, fun _ a na => ?_, fun z => nomatch z⟩⟩
        refine ⟨.ref a, rfl, rfl, rfl, dd, _, .str wh, rfl, hdd, (by kernel_rfl), .ref a, rfl, rfl, rfl, dd, _, v, rfl, hdd, (by kernel_rfl), _, rfl, rfl, .ref CE, .ref CE, true, dd, _, rfl, hdd, rfl, (fun u hu => hu), T.k1, (by show 3 ≤ sizeLine; decide), fun t nt => ?_⟩
        exact k t _ (same_upd nt) upd_same
      · refine ⟨false, T.ex20, (fun z => nomatch z), fun _ => ⟨false, T.ex21, (fun z => nomatch z), fun _ => ⟨true, T.ex22, fun _ a na => ?_, fun z => nomatch z⟩⟩⟩
        refine ⟨_, rfl, rfl, rfl, .ref CE, .ref CE, true, rfl, (fun u hu => hu), T.k2, (by show 2 ≤ sizeLine; decide), fun t nt => ?_⟩
        exact k t _ (same_upd nt) upd_same
    · exact h _ _ (Same.refl H)

end Vf

set_option maxRecDepth 100000
set_option maxHeartbeats 4000000
/-! == of two different instances of a class that has no == of its own -/
namespace Vf
open PySem PySem.Spec PyProof.Rows L2
section
open PySem.SeqAt
variable {prog : Program} {w : World} {A : Around} {E : Value → Shared → Prop} {s : Shared} {K : PySem.W.Frag} {x y C : Addr} {ox oy : Obj} {od oe : Option Obj}
theorem not_the_same {r : Option Value → Shared → Prop} (X : K.In s.heap) (I : PySem.W.InstAt s.heap x ox C od) (J : PySem.W.InstAt s.heap y oy C oe) (ne : x ≠ y) (hm : PySem.W.mroIn K C (.type "object") = some true) (hs : PySem.W.findIn K (.ref C) "__eq__" = some (some (.builtin "object.__eq__"))) (q : r none s) :
    wpAny (model prog w) A (tryCompare (.ref x) "__eq__" (.ref y)) r E s := by
  unfold tryCompare
  refine wpAny_bind (HN.ifBound_objEq X I hs ?_)
  refine wpAny_call (codeAny_call_builtin F.cmp_object.eq.plain F.cmpEntry_eq (PySem.W.check_slot F.cmpKind_eq F.cmpSplit_eq (I.type.andThen (PySem.W.looks_mroIn X hm)) (F.cmpArgs_eq _ _) ?_))
  exact objEq_entry_other ne I.at_ J.at_ (by rw [I.cls]; intro z; cases z) (wpAny_pure q)
theorem inst_eq_no {r : Value → Shared → Prop} (hu : A.units < cLine) (X : K.In s.heap) (I : PySem.W.InstAt s.heap x ox C od) (J : PySem.W.InstAt s.heap y oy C oe) (ne : x ≠ y) (hm : PySem.W.mroIn K C (.type "object") = some true) (hs : PySem.W.findIn K (.ref C) "__eq__" = some (some (.builtin "object.__eq__"))) (q : r (.bool false) s) :
    wpAny (model prog w) A (richCompare .Eq (.ref x) (.ref y)) r E s := by
  simp only [richCompare, cmpInfo_Eq, oneThing_ref]
  refine wpAny_holding (wpAny_bind (wpAny_cRoomFor hu ?_))
  refine wpAny_bind (I.type.here ?_)
  refine wpAny_bind (J.type.here ?_)
  rw [if_neg (by simp)]
  refine wpAny_bind (wpAny_pure ?_)
  simp only [Bool.false_eq_true, if_false, Bool.not_false, if_true]
  refine wpAny_bind (m := tryCompare (.ref x) _ (.ref y)) (not_the_same X I J ne hm hs ?_)
  refine wpAny_bind (m := tryCompare (.ref y) _ (.ref x)) (not_the_same X J I (Ne.symm ne) hm hs ?_)
  refine wpAny_bind (wpAny_rule (wpAny_bind ?_))
  exact wpAny_isSame_ref_other ne I.at_ J.at_ (by rw [I.cls]; intro z; cases z) (wpAny_pure q)
end
/-- two instances of one class that has no == of its own -/
def rEqI (K : PySem.W.Frag) : R2 := fun x y H Q => ∃ a b C dx dy fs gs, x = .ref a ∧ y = .ref b ∧ a ≠ b ∧ H a = some (.ins C dx fs) ∧ H b = some (.ins C dy gs) ∧ PySem.W.mroIn K C (.type "object") = some true ∧ PySem.W.findIn K (.ref C) "__eq__" = some (some (.builtin "object.__eq__")) ∧ Q (.bl false) H
theorem op_eqI {X : Cx} (hu : X.A.units + 64 < cLine) : OpR X (compareOp .Eq) (rEqI X.K) := by
  intro pins s σ H x y v u Q I rx ry h
  obtain ⟨a, b, C, dx, dy, fs, gs, rfl, rfl, ne, ha, hb, hm, hs, q⟩ := h
  cases rx
  cases ry
  obtain ⟨mA, O, _⟩ := ins_get I.hok ha
  obtain ⟨od, J, _⟩ := O.look
  obtain ⟨mB, O2, _⟩ := ins_get I.hok hb
  obtain ⟨oe, J2, _⟩ := O2.look
  exact inst_eq_no (by omega) I.kIn J J2 ne hm hs ⟨.bl false, H, I, rfl, q⟩
end Vf

set_option maxRecDepth 100000
set_option maxHeartbeats 8000000
namespace Vf
open PySem PySem.Spec PyProof.Rows L2
/-! ### programs that the law makes, and what it sees refused -/
open LamX (ExtN Tabs TabS)
theorem sqL_n {K : PySem.W.Frag} {H H' : Hp} {a : Addr} {xs : List V} (e : ExtN H H') (h : SqL K H a xs) : SqL K H' a xs := by
  rcases h with (h | ⟨o, h⟩) | h
  · exact Or.inl (Or.inl (e a _ h (fun ps z => by cases z)))
  · exact Or.inl (Or.inr ⟨o, e a _ h (fun ps z => by cases z)⟩)
  · exact Or.inr h
theorem sqT_n {K : PySem.W.Frag} {H H' : Hp} {a : Addr} {xs : List V} (e : ExtN H H') (h : SqT K H a xs) : SqT K H' a xs := by
  rcases h with (h | ⟨o, h⟩) | h
  · exact Or.inl (Or.inl (e a _ h (fun ps z => by cases z)))
  · exact Or.inl (Or.inr ⟨o, e a _ h (fun ps z => by cases z)⟩)
  · exact Or.inr h
mutual
theorem Dt.n {K : PySem.W.Frag} {H H' : Hp} (e : ExtN H H') : ∀ {v : V} {d : PyData}, Dt K H v d → Dt K H' v d
  | _, _, .non => .non
  | _, _, .bl b => .bl b
  | _, _, .int i => .int i
  | _, _, .str x => .str x
  | _, _, .lst h1 h2 => .lst (sqL_n e h1) (Dts.n e h2)
  | _, _, .tup h1 h2 => .tup (sqT_n e h1) (Dts.n e h2)
  | _, _, .dct h1 h2 => .dct (e _ _ h1 (fun ps z => by cases z)) (Dts.n e h2)
theorem Dts.n {K : PySem.W.Frag} {H H' : Hp} (e : ExtN H H') : ∀ {vs : List V} {ds : List PyData}, Dts K H vs ds → Dts K H' vs ds
  | _, _, .nil => .nil
  | _, _, .cons h1 h2 => .cons (Dt.n e h1) (Dts.n e h2)
end
theorem Pen.n {H H' : Hp} {p l : Addr} {B : Int} (h : Pen H p l B) (e : ExtN H H') : Pen H' p l B := by
  obtain ⟨ns, a, d, c, f, ⟨g1, g2, g3⟩, h2⟩ := h
  exact ⟨ns, a, d, c, f, ⟨e _ _ g1 (fun ps z => by cases z), e _ _ g2 (fun ps z => by cases z), g3⟩, h2⟩
/-- the pen's turns leave the tables -/
theorem tabs_kp {T : List (Addr × Str)} {H H' : Hp} {p l : Addr} {B : Int} (hP : Pen H p l B) (k : Kp p H H') (t : Tabs T H) : Tabs T H' := fun y hy => by
  obtain ⟨ns, a, d, c, f, g1, _⟩ := hP
  obtain ⟨ps, h1, h2, h3⟩ := t y hy
  refine ⟨ps, k _ _ (ne_of h1 g1.1 (by intro z; cases z)) h1, h2, fun pos cv hc => ?_⟩
  obtain ⟨c', e1, e2⟩ := h3 pos cv hc
  exact ⟨c', e1, k _ _ (ne_of e2 g1.1 (by intro z; unfold LamX.CodeO at z; cases z)) e2⟩
theorem tabs_ext {T : List (Addr × Str)} {H H' : Hp} (h : Tabs T H) (s : Same H H') : Tabs T H' := fun p hp => (h p hp).ext s
theorem qual_eq {P : Program} {w : World} {K : PySem.W.Frag} {mg : Str → Option Value} {base : Heap} {N : List Str} {qual : Str} {sc : Scope} {f : Addr} {cd : Value} {A : Around} {o : List Env} {s : Shared} {H : Hp} {E : XK} {CT : CXT} : (cxOf CT P w K mg base N qual sc f cd A o s H E).nox.env.qual = qual ++ ".<locals>." := rfl
def TsF (Pt : Addr) : List (Addr × Str) := [(Pt, (Str.ofString "_law_fixed_right" ++ Str.ofString ".<locals>.") ++ Str.ofString "<lambda>")]
theorem tsF_mem (Pt : Addr) : (Pt, (Str.ofString "_law_fixed_right" ++ Str.ofString ".<locals>.") ++ Str.ofString "<lambda>") ∈ TsF Pt := List.mem_singleton.mpr rfl
theorem tsF_only (Pt : Addr) : ∀ p ∈ TsF Pt, p.1 = Pt → p.2 = (Str.ofString "_law_fixed_right" ++ Str.ofString ".<locals>.") ++ Str.ofString "<lambda>" := fun p hp _ => by rw [List.mem_singleton.mp hp]
def TsL (Pt : Addr) : List (Addr × Str) := [(Pt, (Str.ofString "law" ++ Str.ofString ".<locals>.") ++ Str.ofString "<lambda>")]
theorem tsL_mem (Pt : Addr) : (Pt, (Str.ofString "law" ++ Str.ofString ".<locals>.") ++ Str.ofString "<lambda>") ∈ TsL Pt := List.mem_singleton.mpr rfl
theorem tsL_only (Pt : Addr) : ∀ p ∈ TsL Pt, p.1 = Pt → p.2 = (Str.ofString "law" ++ Str.ofString ".<locals>.") ++ Str.ofString "<lambda>" := fun p hp _ => by rw [List.mem_singleton.mp hp]
/-- the def that calls the lambdas -/
structure Yy (K : PySem.W.Frag) (mg : Str → Option Value) where
  g : Addr
  kV : Value
  doc : Value
  pm : Value
  an : Option Addr
  cdv : Value
  ct : Value
  oc : Value
  od : Option Addr
  osl : Array (Option Value)
  m : mg "_law_why" = some (.ref g)
  kp : PySem.W.keepIn K (.ref g) = true
  lk : K.lookup g = some ⟨oc, od, .func (PySem.W.fnOf "_law_why" "_law_why" (defArgs sWhy) (defBody sWhy) (defScope sWhy) .none kV doc pm an cdv ct), osl⟩
  hc : PySem.W.codeIn K cdv "_law_why" = true
  b : L2.Binds K (PySem.W.fnOf "_law_why" "_law_why" (defArgs sWhy) (defBody sWhy) (defScope sWhy) .none kV doc pm an cdv ct) ["_law_call"] []
theorem _root_.L2.Fun.okC {P : Program} {w : World} {K : PySem.W.Frag} {mg : Str → Option Value} {base : Heap} {x qual : Str} {st : Stmt} {f : Addr} {fd : FuncData} {N ps : List Str} {k : Nat} {sp : Sp} (F : Fun K x qual st f fd) (S : FnScope N ps (defScope st)) (len : ∀ vs H Q E, sp vs H Q E → vs.length = ps.length)
    (hbody : ∀ (cdv : Value) (A : Around) (outer : List Env) (s : Shared) (H : Hp) (vs : List V) (Q : VK) (E : XK), fd.code = cdv → Room k (A.deeper (envOfC qual (defScope st) s.heap.objs.size f cdv)) → sp vs H Q E →
      ∃ t, PSs (cxOf CX0 P w K mg base N qual (defScope st) f cdv A outer s H E).nox (defBody st) t ∧ t { nx := fun _ H' => Q .non H', rt := Q } (L2.start N vs) H) : FnOk P w K mg base CX0 (k + 1) f fd ps sp := by
  obtain ⟨oc, od, kV, doc, pm, an, cdv, ct, osl, rfl, lk, hcd⟩ := F.ex
  refine fn_of lk hcd S len fun A outer s H vs Q E hr hsp => ?_
  obtain ⟨t, h, q⟩ := hbody cdv A outer s H vs Q E rfl hr hsp
  exact ⟨t, h.nox, q⟩
structure PrM (P : Program) (w : World) (K : PySem.W.Frag) (mg : Str → Option Value) (base : Heap) (CP CL : Addr) where
  C : PrC K mg CP
  fI : Addr
  dI : FuncData
  mkI : Mk K CP fI
  okI : FnOk P w K mg base (L2.CX P w) 10 fI dI ["self", "text"] (spPrI K CP CL)
  bI : Binds K dI ["self", "text"] []
theorem RaisesL.same {CL : Addr} {H H1 : Hp} {e : Nat × Nat} {E : XK} (h : RaisesL CL H e E) (s : Same H H1) : RaisesL CL H1 e E := fun d H' s1 n z => h d H' (s.trans s1) (s.free n) z
theorem pr_made {K : PySem.W.Frag} {CP CL : Addr} {H : Hp} {v : V} {d : PyData} {Qd : Addr → Hp → Prop} {E : XK} (hd : Dt K H v d)
    (k : ∀ t, d = .str (Tx t) → t.length + 2 ≤ LL ∧ TellsL CL H (pProg t) E fun st => ∀ (x T S N : Addr) (H' : Hp), Same H H' → H x = none → PrAt CP H' x t st.tabs st.steps T S N → Qd x H') (r : strD d = false → RaisesL CL H (0, 0) E) :
    ∀ x dx, H x = none → H dx = none → dx ≠ x → spPrI K CP CL (.ref x :: ([v] ++ [])) (upd (upd H dx (.own x)) x (.ins CP dx [])) (fun w H2 => w = .non ∧ Qd x H2) E := by
  intro x dx nx nd ne
  have s1 : Same H (upd (upd H dx (.own x)) x (.ins CP dx [])) := (same_upd nd).trans (same_upd (by rw [upd_ne (Ne.symm ne)]; exact nx))
  refine ⟨x, dx, v, d, rfl, upd_same, hd.mono s1, fun t ht => ?_, fun hn => (r hn).same s1⟩
  obtain ⟨k1, k2⟩ := k t ht
  refine ⟨k1, ?_⟩
  cases hp : pProg t with
  | error e =>
    rw [hp] at k2
    exact RaisesL.same k2 s1
  | ok st =>
    rw [hp] at k2
    exact fun T S N H' kp hP => ⟨rfl, k2 x T S N H' (fun b o e => kp b o (ne_of_none e nx) (s1 _ _ e)) nx hP⟩
/-- a right text -/
theorem pr_right {K : PySem.W.Frag} {CP CL : Addr} {H : Hp} {t : List Nat} {st : Pst} {Qd : Addr → Hp → Prop} {E : XK} (hl : t.length + 2 ≤ LL) (hp : pProg t = .ok st)
    (k : ∀ (x T S N : Addr) (H' : Hp), Same H H' → H x = none → PrAt CP H' x t st.tabs st.steps T S N → Qd x H') :
    ∀ x dx, H x = none → H dx = none → dx ≠ x → spPrI K CP CL (.ref x :: ([V.str (Tx t)] ++ [])) (upd (upd H dx (.own x)) x (.ins CP dx [])) (fun w H2 => w = .non ∧ Qd x H2) E :=
  pr_made (.str (Tx t)) (fun t' e => by
    cases tx_inj (PyData.str.inj e)
    refine ⟨hl, ?_⟩
    rw [hp]
    exact k) (fun z => by cases z)
/-- a wrong text -/
theorem pr_wrong {K : PySem.W.Frag} {CP CL : Addr} {H : Hp} {t : List Nat} {e : Nat × Nat} {Qd : Addr → Hp → Prop} {E : XK} (hl : t.length + 2 ≤ LL) (hp : pProg t = .error e) (r : RaisesL CL H e E) :
    ∀ x dx, H x = none → H dx = none → dx ≠ x → spPrI K CP CL (.ref x :: ([V.str (Tx t)] ++ [])) (upd (upd H dx (.own x)) x (.ins CP dx [])) (fun w H2 => w = .non ∧ Qd x H2) E :=
  pr_made (.str (Tx t)) (fun t' z => by
    cases tx_inj (PyData.str.inj z)
    refine ⟨hl, ?_⟩
    rw [hp]
    exact r) (fun z => by cases z)
theorem why_line {C : Nat → Addr} {H2 : Hp} {e : Nat × Nat} {Q : VK} (k : ∀ (t : Addr) (H' : Hp), Same H2 H' → H' t = some (.lst [.int e.1, .int e.2, .bl true]) → Q (.ref t) H') : RaisesL (C 0) H2 e (WhyE C Q) :=
  fun d H' s n z => .inl ⟨rfl, d, _, _, rfl, z, fun t H'' s2 et => k t H'' (s.trans s2) et⟩
def spFixR (Pt : Addr) : Sp := fun vs H Q _ => vs = [] ∧ Tabs (TsF Pt) H ∧ ∀ H', ExtN H H' → Q (.bl true) H'
theorem ints_dt {K : PySem.W.Frag} {H : Hp} : ∀ zs : List Int, Dts K H (zs.map V.int) (zs.map PyData.int)
  | [] => .nil
  | z :: zs => .cons (.int z) (ints_dt zs)
theorem ints_plain : ∀ zs : List Int, PyData.plainAll (zs.map PyData.int) = true
  | [] => rfl
  | z :: zs => by
    have := ints_plain zs
    simp only [List.map_cons, PyData.plainAll, PyData.plain, Bool.true_and]
    exact this
theorem ints_depth : ∀ zs : List Int, PyData.depthAll (zs.map PyData.int) = 0
  | [] => rfl
  | z :: zs => by
    have := ints_depth zs
    simp only [List.map_cons, PyData.depthAll, PyData.depth, this]
    rfl
/-- tuples of the same numbers are not unequal -/
theorem ne_ints {K : PySem.W.Frag} {H : Hp} {a b : Addr} {zs : List Int} {Q : VK} (h1 : H a = some (.tup (zs.map V.int))) (h2 : H b = some (.tup (zs.map V.int))) (q : Q (.bl false) H) : rNeT K (.ref a) (.ref b) H Q := by
  have pl : (PyData.tuple (zs.map PyData.int)).plain = true := by simp only [PyData.plain]; exact ints_plain zs
  refine ⟨.tuple (zs.map .int), .tuple (zs.map .int), .tup (SqT.of h1) (ints_dt zs), .tup (SqT.of h2) (ints_dt zs), pl, pl, ?_, ?_⟩
  · simp only [PyData.depth, ints_depth]; omega
  · rw [SeqAt.eqv_refl_plain _ pl]; exact q
section
variable {P : Program} {w : World} {K : PySem.W.Frag} {mg : Str → Option Value} {base : Heap} {CP CN CW CE : Addr} {C : Nat → Addr}
abbrev sFix : Stmt := topS 48
theorem scFix : FnScope ["_law_text"] [] (defScope sFix) := ⟨rfl, rfl, rfl, by decide +kernel, rfl, by decide +kernel, by decide +kernel⟩
theorem ok_fix {f : Addr} {fd : FuncData} (F : Fun K "_law_fixed_right" "_law_fixed_right" sFix f fd) (hm1 : M1 base) (W : W76 K mg C CE) (PM : PrM P w K mg base CP (C 0)) (PR_ : PrC K mg CP) (M_all_at : Mr P w K mg base CP "all_at" 4 ["self", "x"] (spAll K CP (C 1) (C 2))) (c Pt : Addr) (hfc : fd.code = .ref c) (hTB : LamX.TabB base mg c Pt) (Y : Yy K mg) (hmo : PySem.W.mroIn K CP (.type "object") = some true) (hme : PySem.W.findIn K (.ref CP) "__eq__" = some (some (.builtin "object.__eq__"))) :
    FnOk P w K mg base CX0 16 f fd [] (spFixR Pt) := by
  refine Fun.okC F scFix (fun vs H Q E h => ?_) (fun cdv A outer s H vs Q E hcd hr h => ?_)
  · obtain ⟨rfl, _⟩ := h
    rfl
  · obtain ⟨rfl, hT, q⟩ := h
    have hcd : cdv = .ref c := hcd.symm.trans hfc
    refine ⟨_, (pss_cons (ps_set (i := 0) scFix.nd rfl (Or.inl rfl) pe_str)
  (pss_cons (ps_if (PW.pt (pw_or (pt_cmpR (op_neT hr.units hm1) (pe_meth (pe_make PM.mkI PM.okI (hr.mono (by decide)) rfl PM.C.m PM.bI .nil passL (pa_cons (pv 0) pa_nil)) PR_.cl M_all_at.m M_all_at.ok (hr.mono (by decide)) M_all_at.b .nil passL (pa_cons pe_int pa_nil)) (pe_tup (pa_cons (pe_un un_neg pe_int) (pa_cons (pe_un un_neg pe_int) (pa_cons (pe_un un_neg pe_int) (pa_cons (pe_un un_neg pe_int) (pa_cons (pe_un un_neg pe_int) pa_nil)))))) (nomark _)) (pw_or1 (pt_cmpR (op_neT hr.units hm1) (pe_meth (pe_make PM.mkI PM.okI (hr.mono (by decide)) rfl PM.C.m PM.bI .nil passL (pa_cons pe_str pa_nil)) PR_.cl M_all_at.m M_all_at.ok (hr.mono (by decide)) M_all_at.b .nil passL (pa_cons pe_int pa_nil)) (pe_tup (pa_cons pe_int (pa_cons pe_int pa_nil))) (nomark _)))))
    (pss_one (ps_ret pe_bl))
    pss_nil)
  (pss_cons (ps_if (pt_cmpR (op_eqI hr.units) (pe_make PM.mkI PM.okI (hr.mono (by decide)) rfl PM.C.m PM.bI .nil passL (pa_cons pe_str pa_nil)) (pe_make PM.mkI PM.okI (hr.mono (by decide)) rfl PM.C.m PM.bI .nil passL (pa_cons pe_str pa_nil)) (nomark _))
    (pss_one (ps_ret pe_bl))
    pss_nil)
  (pss_one (ps_ret (pe_cmpR (op_eqT hr.units hm1) (LamX.pe_lamcall (T := TsF Pt) (TT := TWhy C) (k := 12) rfl Y.m Y.kp Y.lk Y.hc Y.b scWhy rfl (.inl rfl) (why_gives W) hTB hcd (by rw [qual_eq]; exact tsF_mem Pt) (by rw [qual_eq]; exact tsF_only Pt) (hr.mono (by decide)) (show LamX.LamS (defScope sFix) _ from LamX.lamS_by (by decide +kernel)) rfl (fun _ _ _ _ _ => rfl) (fun A' out' s' H' E' f' c' hr' => (pe_make PM.mkI PM.okI (hr'.mono (by decide)) rfl PM.C.m PM.bI .nil (E := E') (passes_call (takes_of rfl rfl rfl rfl) (fun _ _ _ _ h => h)) (pa_cons pe_str pa_nil)))) (pe_lst (pa_cons pe_int (pa_cons pe_int (pa_cons pe_bl pa_nil)))) (nomark _))))))), ?_⟩
    rw [lit_F1]
    obtain ⟨st1, hp1, hr1⟩ := runOf_ok fixed1
    obtain ⟨st2, hp2, hr2⟩ := runOf_ok fixed2
    obtain ⟨st3, hp3, hr3⟩ := runOf_ok fixed3
    have hp4 := errOf_ok fixed4
    have one : (1 : Nat) < 2 ^ BigZ := Nat.one_lt_two_pow (by decide)
    have seven : (7 : Nat) < 2 ^ BigZ := Nat.lt_of_lt_of_le (show 7 < 2 ^ 3 by decide) (Nat.pow_le_pow_right (by decide) (by decide))
    refine ⟨_, rfl, pr_right (by decide) hp1 (fun x T S N H1 s1 nx hP1 => ?_)⟩
    obtain ⟨dx, ex⟩ := hP1.ins
    refine ⟨x, dx, _, rfl, ex, (by kernel_rfl), x, T, S, N, .int 1, .int 1, textF1, _, _, rfl, hP1, Nat.le_trans (prog_steps hp1) (by decide), .int 1, fun z e _ => ?_, fun e => by cases e⟩
    cases e
    refine ⟨one, _, hr1, fun p1 H2 s2 ep1 => ?_⟩
    refine ⟨2, rfl, 1, rfl, 3, rfl, 2, rfl, 6, rfl, (by show 5 ≤ sizeLine; decide), fun t1 nt1 => ?_⟩
    refine ne_ints (zs := [-2, -1, -3, -2, -6]) (same_upd nt1 _ _ ep1) upd_same ?_
    have T1 := tabs_ext hT (s1.trans (s2.trans (same_upd (o := HO.tup [V.int (-2), .int (-1), .int (-3), .int (-2), .int (-6)]) nt1)))
    have s03 := s1.trans (s2.trans (same_upd (o := HO.tup [V.int (-2), .int (-1), .int (-3), .int (-2), .int (-6)]) nt1))
    generalize upd H2 t1 (HO.tup _) = H3 at T1 s03 ⊢
    refine ⟨_, rfl, ?_⟩
    refine iteF ?_
    rw [lit_F2]
    refine pr_right (by decide) hp2 (fun x T S N H4 s4 nx hP2 => ?_)
    obtain ⟨dx2, ex2⟩ := hP2.ins
    refine ⟨x, dx2, _, rfl, ex2, (by kernel_rfl), x, T, S, N, .int 7, .int 7, textF2, _, _, rfl, hP2, Nat.le_trans (prog_steps hp2) (by decide), .int 7, fun z e _ => ?_, fun e => by cases e⟩
    cases e
    refine ⟨seven, _, hr2, fun p2 H5 s5 ep2 => ?_⟩
    refine ⟨(by show 2 ≤ sizeLine; decide), fun t2 nt2 => ?_⟩
    refine ne_ints (zs := [0, 7]) (same_upd nt2 _ _ ep2) upd_same ?_
    have s36 := s4.trans (s5.trans (same_upd (o := HO.tup [V.int 0, .int 7]) nt2))
    generalize upd H5 t2 (HO.tup _) = H6 at s36 ⊢
    refine ⟨_, rfl, ?_⟩
    refine iteF ?_
    rw [lit_F3]
    refine pr_right (by decide) hp3 (fun xa T S N H7 s7 nxa hPa => ?_)
    refine pr_right (by decide) hp3 (fun xb T' S' N' H8 s8 nxb hPb => ?_)
    obtain ⟨da, ea⟩ := hPa.ins
    obtain ⟨db, eb⟩ := hPb.ins
    refine ⟨xa, xb, CP, da, db, _, _, rfl, rfl, (fun z => by rw [z, nxb] at ea; cases ea), s8 _ _ ea, eb, hmo, hme, ?_⟩
    refine ⟨_, rfl, ?_⟩
    refine iteF ?_
    have s08 := s03.trans (s36.trans (s7.trans s8))
    have T8 := tabs_ext hT s08
    rw [lit_F4]
    refine ⟨T8, fun H9 eN T9 H10 k s10 => ?_⟩
    refine pr_wrong (by decide) hp4 (why_line fun t4 H11 s11 et4 => ?_)
    refine ⟨(by show 3 ≤ sizeLine; decide), fun t5 nt5 => ?_⟩
    have g4 := same_upd (o := HO.lst [V.int 1, .int 1, .bl true]) nt5 _ _ et4
    refine ⟨.list [.int 1, .int 1, .bool true], .list [.int 1, .int 1, .bool true], .lst (SqL.of g4) (.cons (.int 1) (.cons (.int 1) (.cons (.bl true) .nil))), .lst (SqL.of upd_same) (.cons (.int 1) (.cons (.int 1) (.cons (.bl true) .nil))), rfl, rfl, (by decide), ?_⟩
    exact q _ (ExtN.trans (ExtN.of s08) (eN.trans (ExtN.of (s10.trans (s11.trans (same_upd nt5))))))
end

end Vf

set_option maxRecDepth 100000
set_option maxHeartbeats 4000000
/-! behind an assignment whose value begins with a written text, a token is out -/
namespace Vf
open PySem PySem.Spec PyProof.Rows L2
def PE1 (X : Cx) (e : Expr) (te : TE) : Prop := ∀ (pins : List (Addr × Obj)) (s : Shared) (σ : L2.St) (H : Hp) (Q : VK), Inv X pins σ H s → te σ H Q → wpAny (model X.prog X.w) X.A (eval e X.env) (fun u s1 => 1 ≤ s1.toks ∧ EP X pins σ Q u s1) X.xe s
def PS1 (X : Cx) (st : Stmt) (t : TS) : Prop := ∀ (pins : List (Addr × Obj)) (s : Shared) (σ : L2.St) (H : Hp) (D : Ends), Inv X pins σ H s → t D σ H → wpAny (model X.prog X.w) X.A (exec st X.env) (fun f s1 => 1 ≤ s1.toks ∧ SP X pins D f s1) X.xe s
section
variable {X : Cx}
theorem pe1_bin {x : Str} {j : Nat} {p pos : Pos} {op : Operator} {f : Expr} {tf : TE} {r : R2} (ho : OpR X (binaryOp op) r) (hf : PE X f tf) : PE1 X (.BinOp (.Constant (.str x) j p) op f pos) (tOp r (tC (.str x)) tf) := by
  intro pins s σ H Q I h
  refine wpAny_BinOp (Calls.Constant_str ?_)
  refine wpAny_mono (wpAny_toks_of (n := 1) (by show 1 ≤ s.toks + 1; omega) (hf.run pins { s with toks := s.toks + 1 } σ H _ (I.tok _) h)) (fun u s1 q => ?_) fun _ _ x => x.2
  obtain ⟨hk, y, H1, I1, r1, q1⟩ := q
  exact wpAny_mono (wpAny_toks_of hk (ho pins s1 σ H1 (.str x) y _ u _ I1 ⟨_, rfl⟩ r1 q1)) (fun v s2 z => z) fun _ _ x => x.2
theorem ps1_set {i : Nat} {x : Str} {e : Expr} {te : TE} {pos pos' : Pos} (hN : X.N.Nodup) (hi : X.N[i]? = some x) (hx : Loc X.env.scope x) (he : PE1 X e te) (hs : swapsWith e (some (.Name x pos')) pos.line X.env = pure false := by rfl)
    (hf : X.fn x = true ∨ X.env.scope.names.lookup x = some .local := by first | exact .inl rfl | exact .inr rfl | assumption) : PS1 X (.Assign [.Name x pos'] e pos) (tAsg te (gName i)) := by
  intro pins s σ H D I h
  refine wpAny_Assign_Name (thn (he pins s σ H _ I h) fun v s1 ⟨hk, y, H1, I1, r1, q1⟩ => ?_) hs
  exact wpAny_mono (wpAny_toks_of hk (store_ok (E := X.xe) I1 hN hi hx r1 (fun s2 I2 => (⟨_, H1, I2, q1⟩ : SP X pins D .next s2)) hf)) (fun _ s3 z => z) fun _ _ z => z.2
theorem pst_setT {i : Nat} {x : Str} {e : Expr} {te : TE} {pos pos' : Pos} (hN : X.N.Nodup) (hi : X.N[i]? = some x) (hx : Loc X.env.scope x) (he : PET X e te) (hs : swapsWith e (some (.Name x pos')) pos.line X.env = pure false := by rfl)
    (hf : X.fn x = true ∨ X.env.scope.names.lookup x = some .local := by first | exact .inl rfl | exact .inr rfl | assumption) : PST X (.Assign [.Name x pos'] e pos) (tAsg te (gName i)) := by
  intro pins s σ H D h0 I h
  refine wpAny_Assign_Name (thn (he pins s σ H _ h0 I h) fun v s1 ⟨y, H1, I1, r1, q1⟩ => ?_) hs
  exact store_ok I1 hN hi hx r1 (fun s2 I2 => ⟨_, H1, I2, q1⟩) hf
theorem pss_cons1 {st : Stmt} {rest : List Stmt} {t u : TS} (h1 : PS1 X st t) (h2 : PSsT X rest u) : PSs X (st :: rest) (tSeq t u) := by
  refine ⟨fun pins s σ H D I h => ?_⟩
  refine wpAny_execs_cons (thn (h1 pins s σ H { D with nx := u D } I h) fun f s1 q => ?_)
  obtain ⟨hk, q⟩ := q
  cases f with
  | next =>
    obtain ⟨σ', H', I', q⟩ := q
    exact h2 pins s1 σ' H' D hk I' q
  | ret v => exact q
  | brk => exact q
  | cont => exact q
end
end Vf

set_option maxRecDepth 100000
set_option maxHeartbeats 8000000
namespace Vf
open PySem PySem.Spec PyProof.Rows L2
/-! ### the loose text of a program -/
def spLoose : Sp := fun vs H Q _ => ∃ (p lc l : Addr) (B : Int) (rs : List Addr) (ss : List LS), vs = [.ref p, .ref l] ∧ Pen H p lc B ∧ B ≤ 1000000 ∧ H l = some (.lst (rs.map V.ref)) ∧ All2 (LsAt H) rs ss ∧ l ≠ p ∧ (∀ r ∈ rs, r ≠ p) ∧ ss.length ≤ 12 ∧ (∀ s ∈ ss, LsSz s ∧ NmO s.one ∧ NmO s.oth ∧ s.name.length ≤ 8 ∧ (opX s.sign).filter (· != 32) = opX s.sign) ∧
  ∀ (ls : List (List Nat)) (H' : Hp), Prt ss ls → (joinN ls).length ≤ 300 * ss.length → Kp p H H' → Pen H' p lc (B + 100) → Q (.str (Tx (joinN ls))) H'
theorem tx_catB {a b : List Nat} (h : a.length + b.length ≤ 1000000) : (Tx a).length + (Tx b).length ≤ sizeLine := by rw [tx_len, tx_len, sizeLine_eq]; omega
theorem valT_len {gp : Nat} {s : LS} (h : LsSz s) (hg : gp ≤ 1) : (valT gp s).length ≤ 80 := by
  have l1 := sho_len h.one
  have l2 := sho_len h.oth
  have lo : (opX s.sign).length ≤ 2 := by
    unfold opX
    split
    · decide
    · split
      · decide
      · exact h.sg
  unfold valT
  split
  · omega
  · split
    · simp only [List.length_append, List.length_cons, List.length_nil]
      omega
    · simp only [List.length_append, sp_len]
      omega
theorem psst_cut {X : Cx} {st : Stmt} {rest : List Stmt} {t u : TS} (h1 : PST X st t) (h2 : PSsT X rest u) : PSsT X (st :: rest) (C8.tCut t u) := by
  intro pins s σ H D h0 I h
  obtain ⟨Mid, hm, hu⟩ := h
  refine wpAny_execs_cons (wpAny_mono (PySem.wpAny_toks (h1 pins s σ H { D with nx := Mid } h0 I hm)) (fun f s1 q => ?_) fun _ _ x => x.2)
  obtain ⟨hk, q⟩ := q
  cases f with
  | next =>
    obtain ⟨σ', H', I', q⟩ := q
    exact h2 pins s1 σ' H' D (Nat.le_trans h0 hk) I' (hu σ' H' q)
  | ret v => exact q
  | brk => exact q
  | cont => exact q
section
variable {P : Program} {w : World} {K : PySem.W.Frag} {mg : Str → Option Value} {base : Heap}
abbrev sLoose : Stmt := topS 44
theorem scLoose : FnScope ["_law_pen_here", "_law_steps", "_law_text", "_law_step", "_law_gap", "_law_thing"] ["_law_pen_here", "_law_steps"] (defScope sLoose) := ⟨rfl, rfl, rfl, by decide +kernel, rfl, by decide +kernel, by decide +kernel⟩
theorem ok_loose {f : Addr} {fd : FuncData} (F : Fun K "_law_loose_text" "_law_loose_text" sLoose f fd) (G__law_draw : Df P w K mg base "_law_draw" 1 ["_law_pen_here", "_law_many"] spDraw) (G__law_pick : Df P w K mg base "_law_pick" 2 ["_law_pen_here", "_law_some"] spPick) (G__law_value_text : Df P w K mg base "_law_value_text" 1 ["_law_step"] spVT) : FnOk P w K mg base CX0 3 f fd ["_law_pen_here", "_law_steps"] spLoose := by
  refine F.ok scLoose (fun vs H Q E h => ?_) (fun cdv A outer s H vs Q E hr h => ?_)
  · obtain ⟨p, lc, l, B, rs, ss, rfl, _⟩ := h
    rfl
  · obtain ⟨p, lc, l, B, rs, ss, rfl, hP, hB, hL, hss, lp, rp, l12, sz, q⟩ := h
    refine ⟨_, (pss_cons (ps_set (i := 2) scLoose.nd rfl (Or.inl rfl) pe_str)
  (pss_cons (ps_for PassesOwn.never rfl (pi_seq (pv 1)) (pg_name (i := 3) scLoose.nd rfl (Or.inl rfl))
    (pss_cons1 (ps1_set (i := 4) scLoose.nd rfl (Or.inl rfl) (pe1_bin op_repG (pe_call G__law_draw.ok (hr.mono (by decide)) rfl G__law_draw.m G__law_draw.kp G__law_draw.b .nil pass0 (pa_cons (pv 0) (pa_cons pe_int pa_nil)))))
    (psst_cons (PST.of (ps_set (i := 5) scLoose.nd rfl (Or.inl rfl) (pe_call G__law_value_text.ok (hr.mono (by decide)) rfl G__law_value_text.m G__law_value_text.kp G__law_value_text.b .nil pass0 (pa_cons (pv 3) pa_nil))))
    (psst_cut (CwR.pst_if (PW.pt (pw_and (pt_cmpR op_ne (pe_ix ix_tup (pv 3) pe_int (fun _ _ => rfl)) pe_str (nomark _)) (pw_and (pt_cmpR op_eq (pe_call G__law_draw.ok (hr.mono (by decide)) rfl G__law_draw.m G__law_draw.kp G__law_draw.b .nil pass0 (pa_cons (pv 0) (pa_cons pe_int pa_nil))) pe_int (nomark _)) (pw_and1 (pt_cmpR op_ne (pe_ix ix_tup (pv 3) pe_int (fun _ _ => rfl)) pe_str (nomark _))))))
      (CwR.psst_one (pst_setT (i := 5) scLoose.nd rfl (Or.inl rfl) (CwR.pet_replC (pv 5))))
      CwR.psst_nil)
    (PSsT.of (pss_cons (ps_set (i := 2) scLoose.nd rfl (Or.inl rfl) (pe_op op_add_str (pe_op op_add_str (pe_op op_add_str (pe_op op_add_str (pe_op op_add_str (pe_op op_add_str (pe_op op_add_str (pe_op op_add_str (pv 2) (pe_op op_repG pe_str (pe_call G__law_draw.ok (hr.mono (by decide)) rfl G__law_draw.m G__law_draw.kp G__law_draw.b .nil pass0 (pa_cons (pv 0) (pa_cons pe_int pa_nil))))) (pe_ix ix_tup (pv 3) pe_int (fun _ _ => rfl))) (pv 4)) pe_str) (pv 4)) (pv 5)) (pe_op op_repG pe_str (pe_call G__law_draw.ok (hr.mono (by decide)) rfl G__law_draw.m G__law_draw.kp G__law_draw.b .nil pass0 (pa_cons (pv 0) (pa_cons pe_int pa_nil))))) pe_str))
    (pss_one (ps_set (i := 2) scLoose.nd rfl (Or.inl rfl) (pe_op op_add_str (pv 2) (pe_call G__law_pick.ok (hr.mono (by decide)) rfl G__law_pick.m G__law_pick.kp G__law_pick.b .nil pass0 (pa_cons (pv 0) (pa_cons (pe_lst (pa_cons pe_str (pa_cons pe_str (pa_cons pe_str (pa_cons pe_str (pa_cons pe_str pa_nil)))))) pa_nil))))))))))))
  (pss_one (ps_ret (pv 2))))), ?_⟩
    refine ⟨_, rfl, l, rfl, .inl ⟨_, SqL.of hL, for_list (xs := rs.map V.ref) (fun i σ H3 => ∃ (ls : List (List Nat)) (v3 v4 v5 : Option V), σ = [some (.ref p), some (.ref l), some (.str (Tx (joinN ls))), v3, v4, v5] ∧ Prt (ss.take i) ls ∧ (joinN ls).length ≤ 300 * i ∧ Kp p H H3 ∧ Pen H3 p lc (B + 8 * i))
      ⟨[], none, none, none, ?_, .nil, Nat.zero_le _, Kp.refl, ?_⟩ (fun i σ H3 _ ⟨ls, v3, v4, v5, _, _, _, k, _⟩ => SqL.of (k _ _ lp hL)) ?_ ?_⟩⟩
    · rw [lit_empty]; rfl
    · exact hP.more (by omega)
    · rintro i xv σ H3 hx ⟨ls, v3, v4, v5, rfl, prt, len, k3, p3⟩
      obtain ⟨r, hr1, rfl⟩ : ∃ r, rs[i]? = some r ∧ xv = V.ref r := by
        rw [List.getElem?_map] at hx
        cases h : rs[i]? with
        | none => rw [h] at hx; cases hx
        | some r => rw [h] at hx; exact ⟨r, rfl, (Option.some.inj hx).symm⟩
      obtain ⟨st, hs1, er⟩ := hss.at hr1
      have ilt := (List.getElem?_eq_some_iff.mp hs1).1
      have rne := rp r (List.mem_of_getElem? hr1)
      have er : H r = some (.tup [.str (Tx st.name), .str (Tx st.sign), loV st.one, loV st.oth]) := er
      have stk : ss.take (i + 1) = ss.take i ++ [st] := by rw [List.take_succ_eq_append_getElem ilt, (List.getElem?_eq_some_iff.mp hs1).2]
      obtain ⟨z1, z2, z3, z4, z5⟩ := sz st (List.mem_of_getElem? hs1)
      refine ⟨_, rfl, p, lc, B + 8 * i, 3, rfl, p3, by omega, by decide, by decide, fun g H4 g0 g1 p4 k4 => ?_⟩
      refine ⟨32, g, by rw [lit_sp], rfl, g0, by omega, ?_⟩
      have er4 := k4 _ _ rne (k3 _ _ rne er)
      refine ⟨_, rfl, r, st, rfl, er4, z1, fun H5 s5 => ?_⟩
      have p5 := p4.same s5
      have k5 := (k3.trans k4).trans (Kp.of s5)
      have er5 := s5 _ _ er4
      refine ⟨fun σ' H' => ∃ gp : Nat, σ' = [some (.ref p), some (.ref l), some (.str (Tx (joinN ls))), some (.ref r), some (.str (Tx (sp g.toNat))), some (.str (Tx (valT gp st)))] ∧ gp ≤ 1 ∧ Kp p H H' ∧ Pen H' p lc (B + 8 * i + 2), ?_, ?_⟩
      · refine ⟨_, rfl, r, _, 1, .str (Tx st.sign), rfl, rfl, SqT.of er5, rfl, rfl, _, rfl, ?_⟩
        rw [lit_empty, tx_eq]
        by_cases h0 : st.sign = []
        · rw [decide_eq_true h0]
          refine iteF ?_
          refine iteF ?_
          exact ⟨1, rfl, by omega, k5, p5.more (by omega)⟩
        · rw [decide_eq_false h0]
          refine iteT ?_
          refine ⟨_, rfl, p, lc, B + 8 * i + 1, 3, rfl, p5, by omega, by decide, by decide, fun y H6 y0 y1 p6 k6 => ?_⟩
          refine ⟨rfl, _, rfl, ?_⟩
          have k56 := k5.trans k6
          by_cases hy : y = 0
          · rw [decide_eq_true (show V.int y = V.int 0 by rw [hy])]
            refine iteT ?_
            refine ⟨_, rfl, r, _, 1, .str (Tx st.sign), rfl, rfl, SqT.of (k6 _ _ rne er5), rfl, rfl, _, rfl, ?_⟩
            cases decide (V.str (Tx st.sign) = V.str ("-" : Str)) with
            | true =>
              refine iteF ?_
              exact ⟨1, rfl, by omega, k56, p6.more (by omega)⟩
            | false =>
              refine iteT ?_
              refine ⟨_, rfl, Tx (valT 1 st), rfl, ?_, ?_⟩
              · have := valT_len (gp := 1) z1 (by omega)
                show (Tx (valT 1 st)).length + ((Tx (valT 1 st)).length + 1) * 0 ≤ 16777216
                rw [tx_len]
                omega
              · have e := strike_valT z2 z3 z5
                rw [lit_empty] at e
                rw [e]
                exact ⟨0, rfl, by omega, k56, p6.more (by omega)⟩
          · rw [decide_eq_false (fun z => hy (V.int.inj z))]
            refine iteF ?_
            refine iteF ?_
            exact ⟨1, rfl, by omega, k56, p6.more (by omega)⟩
      · rintro σ' H6 ⟨gp, rfl, gp1, k6, p6⟩
        have er6 := k6 _ _ rne er
        have vl := valT_len (gp := gp) z1 gp1
        have l0 : (joinN ls).length ≤ 3600 := by omega
        refine ⟨_, rfl, _, rfl, p, lc, B + 8 * i + 2, 2, rfl, p6, by omega, by decide, by decide, fun a H7 a0 a1 p7 k7 => ?_⟩
        have er7 := k7 _ _ rne er6
        refine ⟨32, a, by rw [lit_sp], rfl, a0, by omega, ?_⟩
        have ra : List.replicate a.toNat 32 = sp a.toNat := rfl
        rw [ra]
        have la : (sp a.toNat).length ≤ 1 := by rw [sp_len]; omega
        have lg : (sp g.toNat).length ≤ 2 := by rw [sp_len]; omega
        refine ⟨_, _, rfl, rfl, tx_catB (by omega), ?_⟩
        rw [tx_app]
        refine ⟨_, rfl, r, _, 0, .str (Tx st.name), rfl, rfl, SqT.of er7, rfl, ?_⟩
        refine ⟨_, _, rfl, rfl, tx_catB (by simp only [List.length_append]; omega), ?_⟩
        rw [tx_app]
        refine ⟨_, rfl, _, _, rfl, rfl, tx_catB (by simp only [List.length_append]; omega), ?_⟩
        rw [tx_app, lit_eqs]
        refine ⟨_, _, rfl, rfl, tx_catB (by simp only [List.length_append, List.length_cons, List.length_nil]; omega), ?_⟩
        rw [tx_app]
        refine ⟨_, rfl, _, _, rfl, rfl, tx_catB (by simp only [List.length_append, List.length_cons, List.length_nil]; omega), ?_⟩
        rw [tx_app]
        refine ⟨_, rfl, _, _, rfl, rfl, tx_catB (by simp only [List.length_append, List.length_cons, List.length_nil]; omega), ?_⟩
        rw [tx_app]
        refine ⟨_, rfl, p, lc, B + 8 * i + 2 + 1, 2, rfl, p7, by omega, by decide, by decide, fun b H8 b0 b1 p8 k8 => ?_⟩
        refine ⟨32, b, by rw [lit_sp], rfl, b0, by omega, ?_⟩
        rw [show List.replicate b.toNat 32 = sp b.toNat from rfl]
        have lb : (sp b.toNat).length ≤ 1 := by rw [sp_len]; omega
        refine ⟨_, _, rfl, rfl, tx_catB (by simp only [List.length_append, List.length_cons, List.length_nil]; omega), ?_⟩
        rw [tx_app, lit_nl]
        refine ⟨_, _, rfl, rfl, tx_catB (by simp only [List.length_append, List.length_cons, List.length_nil]; omega), ?_⟩
        rw [tx_app]
        have et : joinN ls ++ sp a.toNat ++ st.name ++ sp g.toNat ++ [61] ++ sp g.toNat ++ valT gp st ++ sp b.toNat ++ [10] = joinN (ls ++ [stepT a.toNat g.toNat st.name (valT gp st) b.toNat]) := by
          rw [joinN_snoc]
          unfold stepT
          simp only [List.append_assoc, List.cons_append, List.nil_append]
        rw [et]
        have ll : (joinN (ls ++ [stepT a.toNat g.toNat st.name (valT gp st) b.toNat])).length ≤ 300 * i + 100 := by
          rw [← et]
          simp only [List.length_append, List.length_cons, List.length_nil]
          omega
        have prt' : Prt (ss.take (i + 1)) (ls ++ [stepT a.toNat g.toNat st.name (valT gp st) b.toNat]) := by
          rw [stk]
          exact prt.step
        generalize ls ++ [stepT a.toNat g.toNat st.name (valT gp st) b.toNat] = l2 at ll prt' ⊢
        refine ⟨_, rfl, _, rfl, (by show 5 ≤ sizeLine; decide), fun D nD => ?_⟩
        have pD : Pen (upd H8 D (HO.lst [V.str "", .str "", .str "", .str "\n", .str "  \n"])) p lc (B + 8 * i + 2 + 1 + 1) := p8.same (same_upd nD)
        have pn : D ≠ p := fun e => by
          obtain ⟨o, h⟩ := p8.there
          rw [e, h] at nD
          cases nD
        have k8' : Kp p H (upd H8 D (HO.lst [V.str "", .str "", .str "", .str "\n", .str "  \n"])) := ((k6.trans k7).trans k8).trans (Kp.of (same_upd nD))
        refine ⟨p, lc, D, B + 8 * i + 2 + 1 + 1, _, rfl, pD, by omega, upd_same, pn, (by show 0 < 5; decide), (by show 5 < 1000000; decide), fun y H9 hy p9 k9 => ?_⟩
        have k19 := k8'.trans k9
        obtain ⟨c, l3, e, lc3, pr3, ey⟩ : ∃ (c : List Nat) (l3 : List (List Nat)), joinN l2 ++ c = joinN l3 ∧ c.length ≤ 3 ∧ Prt (ss.take (i + 1)) l3 ∧ y = .str (Tx c) := by
          simp only [List.mem_cons, List.not_mem_nil, or_false] at hy
          rcases hy with hy | hy | hy | hy | hy
          · exact ⟨[], l2, by rw [List.append_nil], by decide, prt', by rw [hy, lit_empty]⟩
          · exact ⟨[], l2, by rw [List.append_nil], by decide, prt', by rw [hy, lit_empty]⟩
          · exact ⟨[], l2, by rw [List.append_nil], by decide, prt', by rw [hy, lit_empty]⟩
          · exact ⟨[10], l2 ++ [sp 0], by rw [joinN_snoc]; simp [sp], by decide, prt'.blank, hy⟩
          · exact ⟨[32, 32, 10], l2 ++ [sp 2], by rw [joinN_snoc]; simp [sp], by decide, prt'.blank, by rw [hy, show ("  \n" : Str) = Tx [32, 32, 10] by decide +kernel]⟩
        subst ey
        refine ⟨_, _, rfl, rfl, tx_catB (by omega), ?_⟩
        rw [tx_app, e]
        exact ⟨l3, _, _, _, rfl, pr3, by rw [← e, List.length_append]; omega, k19, p9.more (by omega)⟩
    · rintro σ H3 ⟨ls, v3, v4, v5, rfl, prt, len, k3, p3⟩
      rw [List.length_map, hss.len] at prt len p3
      rw [List.take_length] at prt
      refine ⟨_, rfl, ?_⟩
      exact q ls H3 prt len k3 (p3.more (by omega))
end

end Vf

set_option maxRecDepth 100000
set_option maxHeartbeats 8000000
namespace Vf
open PySem PySem.Spec PyProof.Rows L2
/-! ### the law -/
open LamX (ExtN Tabs TabS)
theorem fnG_of1 {P : Program} {w : World} {K : PySem.W.Frag} {mg : Str → Option Value} {base : Heap} {x qual : Str} {st : Stmt} {f : Addr} {fd : FuncData} {N ps : List Str} {k : Nat} {sp : Sp} (F : Fun K x qual st f fd) (S : FnScope N ps (defScope st))
    (ar : ∀ vs H Q E, sp vs H Q E → vs.length = ps.length)
    (body : ∀ (cdv : Value) (A : Around) (out : List Env) (s : Shared) (H : Hp) (vs : List V) (Q : VK) (E : XK), A.guards = some [] → Room k (A.deeper (envOfC qual (defScope st) s.heap.objs.size f cdv)) → fd.code = cdv → sp vs H Q E →
      ∃ t, PSs (cxOf CX0 P w K mg base N qual (defScope st) f cdv A out s H E).nox (defBody st) t ∧ t { nx := fun _ H' => Q .non H', rt := Q } (L2.start N vs) H) : FnG P w K mg base CX0 (k + 1) f fd ps sp := by
  obtain ⟨oc, od, kV, doc, pm, an, cdv, ct, osl, e, lk, hcd⟩ := F.ex
  subst e
  refine ⟨ar, fun {A out s H args us vs Q E} hgu hr e0 hb r h => LamX.run_ofS lk hcd S hr e0 hb r (ar _ _ _ _ h) fun hr' => ?_⟩
  obtain ⟨t, z, q⟩ := body cdv A out s H vs Q E hgu hr' rfl h
  exact ⟨t, z.nox, q⟩
def rJoinK (K : PySem.W.Frag) : V → List V → Hp → VK → Prop := fun x xs H Q => ∃ a p, ∃ ys : List Str, x = .str a ∧ xs = [.ref p] ∧ (SqL K H p (ys.map V.str) ∨ SqT K H p (ys.map V.str)) ∧
      (ys.map (·.length)).sum + ys.length * a.length ≤ 16777216 ∧ Q (.str (Txt.join a ys)) H
theorem pe_joinK {X : Cx} {K : PySem.W.Frag} (hK : X.K = K) {o e : Expr} {to te : TE} {apos pos : Pos} (ho : PE X o to) (he : PE X e te) (hs : starEach [e] X.env = [(false, eval e X.env)] := by rfl) (hbase : attributeBase o "join" X.env (eval o X.env) = eval o X.env := by rfl) (hline : (apos.endLine == pos.line) = true := by rfl) :
    PE X (.Call (.Attribute o "join" apos) [e] [] pos) (tM1 (rJoinK K) to te) := by
  subst hK
  exact pe_join ho he hs hbase hline
theorem pi_seqK {X : Cx} {K : PySem.W.Frag} (hK : X.K = K) {tg e : Expr} {td : TE} (he : PE X e td) : PI X tg e (iSeq K td) := by
  subst hK
  exact pi_seq he
def scCmp : Scope := { kind := .function, names := [(".0", .local), ("_law_name", .local), ("_law_tables", .free)], isGenerator := false, isCoroutine := false }
def scCmp2 : Scope := { kind := .function, names := [(".0", .local), ("_law_one", .local), ("str", .globalImplicit)], isGenerator := false, isCoroutine := false }
theorem blk2 {sc : Scope} : BlkOk ["_law_script", "_law_pen_here", "_law_steps", "_law_tables", "_law_text", "_law_name", "_law_one", "_law_made", "_law_step", "_law_x", "_law_due", "_law_found", "_law_odd", "_law_pad", "_law_front", "_law_wrong", "_law_column", "_law_early", "_law_bare", "_law_none"] sc scCmp2 [("_law_one", 6)] := by
  have b : BlkOk ["_law_script", "_law_pen_here", "_law_steps", "_law_tables", "_law_text", "_law_name", "_law_one", "_law_made", "_law_step", "_law_x", "_law_due", "_law_found", "_law_odd", "_law_pad", "_law_front", "_law_wrong", "_law_column", "_law_early", "_law_bare", "_law_none"] scCmp scCmp2 [("_law_one", 6)] := blkOk_by (by decide +kernel)
  refine ⟨b.kind, b.uniq, b.ix, fun y hy e => ?_, b.own⟩
  simp only [scCmp2, List.mem_cons, List.not_mem_nil, or_false] at hy
  rcases hy with rfl | rfl | rfl <;> cases e
def TsLF (Pt Pf : Addr) : List (Addr × Str) := TsL Pt ++ TsF Pf
theorem tsLF_mem (Pt Pf : Addr) : (Pt, (Str.ofString "law" ++ Str.ofString ".<locals>.") ++ Str.ofString "<lambda>") ∈ TsLF Pt Pf := List.mem_append_left _ (tsL_mem Pt)
theorem tsLF_only (Pt Pf : Addr) (h : Pf ≠ Pt) : ∀ p ∈ TsLF Pt Pf, p.1 = Pt → p.2 = (Str.ofString "law" ++ Str.ofString ".<locals>.") ++ Str.ofString "<lambda>" := fun p hp e => by
  rcases List.mem_append.mp hp with z | z
  · refine tsL_only Pt p z e
  · rw [List.mem_singleton.mp z] at e
    exact absurd e h
theorem tabs_F {Pt Pf : Addr} {H : Hp} (h : Tabs (TsLF Pt Pf) H) : Tabs (TsF Pf) H := fun p hp => h p (List.mem_append_right _ hp)
theorem tab_startLF {Pt Pf : Addr} {H : Hp} (h1 : H Pt = some (.tbl #[])) (h2 : H Pf = some (.tbl #[])) : Tabs (TsLF Pt Pf) H := fun p hp => by
  rcases List.mem_append.mp hp with z | z
  · rw [List.mem_singleton.mp z]; exact TabS.nil h1
  · rw [List.mem_singleton.mp z]; exact TabS.nil h2
def spLaw (K : PySem.W.Frag) (Pt Pf : Addr) : Sp := fun vs H Q _ => ∃ (a : Addr) (ns : List Int), vs = [.ref a] ∧ SqL K H a (ns.map V.int) ∧ ns.length ≤ 63 ∧ H Pt = some (.tbl #[]) ∧ H Pf = some (.tbl #[]) ∧ ∀ H', Q (.bl true) H'
theorem TabK.at {H : Hp} {kvs : List (Key × V)} {tn : Tn'} (h : TabK H kvs tn) : ∀ {i : Nat} {k : Key} {v : V}, kvs[i]? = some (k, v) → ∃ n zs, k = .inr (Tx n) ∧ tn[i]? = some (n, zs) := by
  induction h with
  | nil => intro i k v h; cases h
  | @cons a n zs kvs tn e _ ih =>
    intro i k v h
    cases i with
    | zero => cases h; exact ⟨n, zs, rfl, rfl⟩
    | succ i => exact ih h
theorem strs_eq (L : List (List Nat)) : (L.map Tx).map V.str = L.map fun l => V.str (Tx l) := List.map_map ..
theorem sho_no10 {o : LOp} (h : NmO o) : 10 ∉ shO o := by
  cases o with
  | nm n => exact Nm.no10 h
  | nu z => exact no10_int z
theorem Wf.no10 {tn : Tn'} {ss : List LS} {dn : Dn'} (w : Wf tn ss dn) : ∀ s ∈ ss, 10 ∉ s.name ∧ 10 ∉ opX s.sign := fun s hs => by
  obtain ⟨d, dn', e, _, ok⟩ := w.ok s hs
  refine ⟨(w.nm s.name (by rw [w.names]; exact List.mem_cons_of_mem _ (List.mem_map.mpr ⟨s, hs, rfl⟩))).no10, ?_⟩
  cases ok with
  | same h _ => rw [h]; decide
  | add h _ _ _ => rcases h with h | h <;> rw [h] <;> decide
  | mul h _ _ _ _ _ => rw [h]; decide
  | cut h _ _ _ => rcases h with h | h | h <;> rw [h] <;> decide
  | cell h _ _ _ _ => rw [h]; decide
theorem Prt.no10 {ss : List LS} {ls : List (List Nat)} (p : Prt ss ls) : (∀ s ∈ ss, NmO s.one ∧ NmO s.oth ∧ 10 ∉ s.name ∧ 10 ∉ opX s.sign) → ∀ l ∈ ls, 10 ∉ l := by
  induction p with
  | nil => intro _ l hl; cases hl
  | @step ss ls s g0 g gp k _ ih =>
    intro h l hl
    rcases List.mem_append.mp hl with hl | hl
    · exact ih (fun y hy => h y (List.mem_append_left _ hy)) l hl
    · rw [List.mem_singleton.mp hl]
      obtain ⟨h1, h2, h3, h4⟩ := h s (List.mem_append_right _ List.mem_cons_self)
      have a1 := sho_no10 h1
      have a2 := sho_no10 h2
      have v : 10 ∉ valT gp s := by
        unfold valT
        split
        · exact a1
        · split
          · simp [a1, a2]
          · simp [a1, a2, h4, no10_sp]
      unfold stepT
      simp [no10_sp, h3, v]
  | blank _ ih =>
    intro h l hl
    rcases List.mem_append.mp hl with hl | hl
    · exact ih h l hl
    · rw [List.mem_singleton.mp hl]
      exact no10_sp _
theorem stripT_len (t : List Nat) : (stripT t).length ≤ t.length := by
  unfold stripT
  rw [List.length_reverse]
  have := (List.dropWhile_sublist (fun c => c == 10) (l := t.reverse)).length_le
  rw [List.length_reverse] at this
  exact this
theorem ne_strs {K : PySem.W.Frag} {H : Hp} {a b : Addr} {ns : List (List Nat)} {Q : VK} (h1 : H a = some (.tup (ns.map fun n => V.str (Tx n)))) (h2 : H b = some (.tup (ns.map fun n => V.str (Tx n)))) (q : Q (.bl false) H) : rNeT K (.ref a) (.ref b) H Q := by
  have pl : (PyData.tuple (ns.map fun n => PyData.str (Tx n))).plain = true := by simp only [PyData.plain]; exact strs_plain ns
  refine ⟨.tuple (ns.map fun n => PyData.str (Tx n)), .tuple (ns.map fun n => PyData.str (Tx n)), .tup (SqT.of h1) (strs_dt ns), .tup (SqT.of h2) (strs_dt ns), pl, pl, ?_, ?_⟩
  · simp only [PyData.depth, strs_depth]; omega
  · rw [SeqAt.eqv_refl_plain _ pl]; exact q
theorem toStp_name (tn : Tn') (dn : Dn') (s : LS) : (toStp tn dn s).name = s.name := by
  unfold toStp
  split
  · rfl
  · split
    · rfl
    · split <;> rfl
theorem prog_names (tn : Tn') (dn : Dn') (ss : List LS) : (ss.map (toStp tn dn)).map (fun s => V.str (Tx s.name)) = (ss.map (·.name)).map fun n => V.str (Tx n) := by
  rw [List.map_map, List.map_map]
  refine List.map_congr_left fun s _ => ?_
  show V.str (Tx (toStp tn dn s).name) = V.str (Tx s.name)
  rw [toStp_name]
theorem PrAt.upp {CP : Addr} {H H' : Hp} {x T S N : Addr} {t : List Nat} {tbs : List (List Int)} {sps : List Stp} (h : PrAt CP H x t tbs sps T S N) (e : ∀ b o, H b = some o → (∀ kvs, o ≠ .dK kvs) → (∀ ps, o ≠ .tbl ps) → H' b = some o) : PrAt CP H' x t tbs sps T S N where
  ins := h.ins.imp fun _ z => e _ _ z (fun _ z => by cases z) (fun _ z => by cases z)
  tabs := h.tabs.imp fun _ z => ⟨e _ _ z.1 (fun _ z => by cases z) (fun _ z => by cases z), z.2.imp fun r x y => e _ _ y (fun _ z => by cases z) (fun _ z => by cases z)⟩
  steps := h.steps.imp fun _ z => ⟨e _ _ z.1 (fun _ z => by cases z) (fun _ z => by cases z), z.2.imp fun r x y => y.up fun b xs g => e _ _ g (fun _ z => by cases z) (fun _ z => by cases z)⟩
  names := e _ _ h.names (fun _ z => by cases z) (fun _ z => by cases z)
theorem PrAt.n {CP : Addr} {H H' : Hp} {x T S N : Addr} {t : List Nat} {tbs : List (List Int)} {sps : List Stp} (h : PrAt CP H x t tbs sps T S N) (e : ExtN H H') : PrAt CP H' x t tbs sps T S N :=
  h.upp fun b o g _ n => e b o g n
theorem PrAt.kp {CP : Addr} {H H' : Hp} {x T S N p lc : Addr} {B : Int} {t : List Nat} {tbs : List (List Int)} {sps : List Stp} (h : PrAt CP H x t tbs sps T S N) (hP : Pen H p lc B) (k : Kp p H H') : PrAt CP H' x t tbs sps T S N :=
  h.upp fun b o g n _ => k b o (fun z => by
    obtain ⟨ns, a, d, c, f, ⟨g1, _⟩, _⟩ := hP
    rw [z, g1] at g
    cases g
    exact n _ rfl) g
theorem pat_ev {K : PySem.W.Frag} {CP CN CW : Addr} {H : Hp} {σ : L2.St} {Q : VK} {E : XK} {i : Nat} {x T S N : Addr} {v : V} {d : PyData} {t : List Nat} {tbs : List (List Int)} {sps : List Stp} (h7 : σ[7]? = some (some (.ref x))) (hi : σ[i]? = some (some v)) (hP : PrAt CP H x t tbs sps T S N) (hl : sps.length ≤ LL) (hd : Dt K H v d)
    (h1 : ∀ z, d = .int z → 0 ≤ z → z.natAbs < 2 ^ BigZ ∧ ∃ r, runs tbs [z] sps = some r ∧ (match r with
      | none => RaisesW CW H E
      | some fs => ∃ y, (fs.drop 1).getLast? = some y ∧ ∀ (H' : Hp), Same H H' → Q (.int y) H')) (h2 : inputD d = false → RaisesN CN H (.str "x") v E) :
    tMeth CP "at" (spPAt K CP CN CW) [] E (tVar 7) (tCons (tVar i) tNil) σ H Q := by
  obtain ⟨dx, ex⟩ := hP.ins
  exact ⟨_, h7, x, dx, _, rfl, ex, (by kernel_rfl), _, hi, x, T, S, N, v, d, t, _, _, rfl, hP, hl, hd, h1, h2⟩
theorem pall_ev {K : PySem.W.Frag} {CP CN CW : Addr} {H : Hp} {σ : L2.St} {Q : VK} {E : XK} {i : Nat} {x T S N : Addr} {v : V} {d : PyData} {t : List Nat} {tbs : List (List Int)} {sps : List Stp} (h7 : σ[7]? = some (some (.ref x))) (hi : σ[i]? = some (some v)) (hP : PrAt CP H x t tbs sps T S N) (hl : sps.length ≤ LL) (hd : Dt K H v d)
    (h1 : ∀ z, d = .int z → 0 ≤ z → z.natAbs < 2 ^ BigZ ∧ ∃ r, runs tbs [z] sps = some r ∧ (match r with
      | none => RaisesW CW H E
      | some fs => ∀ (p : Addr) (H' : Hp), Same H H' → H' p = some (.tup ((fs.drop 1).map V.int)) → Q (.ref p) H')) (h2 : inputD d = false → RaisesN CN H (.str "x") v E) :
    tMeth CP "all_at" (spAll K CP CN CW) [] E (tVar 7) (tCons (tVar i) tNil) σ H Q := by
  obtain ⟨dx, ex⟩ := hP.ins
  exact ⟨_, h7, x, dx, _, rfl, ex, (by kernel_rfl), _, hi, x, T, S, N, v, d, t, _, _, rfl, hP, hl, hd, h1, h2⟩
theorem tabs_updL {TT : List (Addr × Str)} {H : Hp} {l : Addr} {xs : List V} {o : HO} (h : Tabs TT H) (e : H l = some (.lst xs)) : Tabs TT (upd H l o) := fun q hq => by
  obtain ⟨ps, h1, h2, h3⟩ := h q hq
  refine ⟨ps, by rw [upd_ne (ne_of h1 e (by intro z; cases z))]; exact h1, h2, fun pos cv hc => ?_⟩
  obtain ⟨c, e1, e2⟩ := h3 pos cv hc
  exact ⟨c, e1, by rw [upd_ne (ne_of e2 e (by intro z; unfold LamX.CodeO at z; cases z))]; exact e2⟩
def wideD : PyData := .list [.list [.str "wide", .bool true], .list [.str "wide", .bool true]]
theorem wide_dt {K : PySem.W.Frag} {H : Hp} {l a b : Addr} (h : H l = some (.lst [.ref a, .ref b])) (h1 : H a = some (.lst [.str "wide", .bl true])) (h2 : H b = some (.lst [.str "wide", .bl true])) : Dt K H (.ref l) wideD :=
  .lst (SqL.of h) (.cons (.lst (SqL.of h1) (.cons (.str _) (.cons (.bl true) .nil))) (.cons (.lst (SqL.of h2) (.cons (.str _) (.cons (.bl true) .nil))) .nil))
structure OddX (K : PySem.W.Frag) (H : Hp) (v : V) (d : PyData) : Prop where
  dt : Dt K H v d
  no : inputD d = false
  pl : d.plain = true
  dp : d.depth ≤ 2
theorem OddX.n {K : PySem.W.Frag} {H H' : Hp} {v : V} {d : PyData} (h : OddX K H v d) (e : ExtN H H') : OddX K H' v d := ⟨h.dt.n e, h.no, h.pl, h.dp⟩
theorem odd_eqv {K : PySem.W.Frag} {H : Hp} {l1 l2 : Addr} {v : V} {d : PyData} {Q : VK} (o : OddX K H v d) (h1 : H l1 = some (.lst [.str "x", v, .bl true])) (h2 : H l2 = some (.lst [.str "x", v, .bl true])) (q : Q (.bl false) H) : rNeT K (.ref l1) (.ref l2) H Q := by
  have pl : (PyData.list [.str "x", d, .bool true]).plain = true := by simp [PyData.plain, PyData.plainAll, o.pl]
  refine ⟨_, _, .lst (SqL.of h1) (.cons (.str _) (.cons o.dt (.cons (.bl true) .nil))), .lst (SqL.of h2) (.cons (.str _) (.cons o.dt (.cons (.bl true) .nil))), pl, pl, ?_, ?_⟩
  · have := o.dp
    simp [PyData.depth, PyData.depthAll]
    omega
  · rw [SeqAt.eqv_refl_plain _ pl]; exact q
theorem lst3_eqv {K : PySem.W.Frag} {H : Hp} {l1 l2 : Addr} {a b : Int} {Q : VK} (h1 : H l1 = some (.lst [.int a, .int b, .bl true])) (h2 : H l2 = some (.lst [.int a, .int b, .bl true])) (q : Q (.bl false) H) : rNeT K (.ref l1) (.ref l2) H Q := by
  have pl : (PyData.list [.int a, .int b, .bool true]).plain = true := by simp [PyData.plain, PyData.plainAll]
  refine ⟨_, _, .lst (SqL.of h1) (.cons (.int a) (.cons (.int b) (.cons (.bl true) .nil))), .lst (SqL.of h2) (.cons (.int a) (.cons (.int b) (.cons (.bl true) .nil))), pl, pl, ?_, ?_⟩
  · simp [PyData.depth, PyData.depthAll]
  · rw [SeqAt.eqv_refl_plain _ pl]; exact q
theorem lst3_eq {K : PySem.W.Frag} {H : Hp} {l1 l2 : Addr} {a b : Int} {Q : VK} (h1 : H l1 = some (.lst [.int a, .int b, .bl true])) (h2 : H l2 = some (.lst [.int a, .int b, .bl true])) (q : Q (.bl true) H) : rEqT K (.ref l1) (.ref l2) H Q := by
  have pl : (PyData.list [.int a, .int b, .bool true]).plain = true := by simp [PyData.plain, PyData.plainAll]
  refine ⟨_, _, .lst (SqL.of h1) (.cons (.int a) (.cons (.int b) (.cons (.bl true) .nil))), .lst (SqL.of h2) (.cons (.int a) (.cons (.int b) (.cons (.bl true) .nil))), pl, pl, ?_, ?_⟩
  · simp [PyData.depth, PyData.depthAll]
  · rw [SeqAt.eqv_refl_plain _ pl]; exact q
theorem lit_bares : [(V.str ("" : Str), V.int 1), (V.str ("\n" : Str), V.int 2), (V.str ("table t 3" : Str), V.int 2), (V.str ("table t 3\n \n" : Str), V.int 3), (V.str ("  " : Str), V.int 2)] = bares.map fun b => (V.str (Tx b.1), V.int (b.2 : Int)) := by decide +kernel
theorem bares_len : ∀ b ∈ bares, b.1.length ≤ 20 := by decide
theorem ways_fit : (waysL.all fun w => decide (w.1.length ≤ 100)) = true ∧ (waysT.all fun w => decide (w.1.length ≤ 100)) = true := by decide +kernel
theorem fronts_fit : ∀ f ∈ fronts, f.length ≤ 2 := by decide
theorem bad_num : (waysL.all fun w => fronts.all fun f => [0, 1, 2].all fun p => decide (2 ≤ (spn [] (badL f p w.1)).length)) = true ∧ (waysT.all fun w => fronts.all fun f => [0, 1, 2].all fun p => decide (2 ≤ (spn [] (badT f p w.1)).length)) = true := by decide +kernel
theorem bad_lineT {w : List Nat × Nat} {f : List Nat} {p : Nat} (hw : w ∈ waysL) (hf : f ∈ fronts) (hp : p < 3) : pProg (badL f p w.1) = .error ((spn [] (badL f p w.1)).length - 2, w.2 + p) ∧ 2 ≤ (spn [] (badL f p w.1)).length := by
  have h3 : p ∈ [0, 1, 2] := by
    simp only [List.mem_cons, List.not_mem_nil, or_false]
    omega
  exact ⟨errOf_ok (of_decide_eq_true (List.all_eq_true.mp (List.all_eq_true.mp (List.all_eq_true.mp bad_lines w hw) f hf) p h3)), of_decide_eq_true (List.all_eq_true.mp (List.all_eq_true.mp (List.all_eq_true.mp bad_num.1 w hw) f hf) p h3)⟩
theorem bad_tableT {w : List Nat × Nat} {f : List Nat} {p : Nat} (hw : w ∈ waysT) (hf : f ∈ fronts) (hp : p < 3) : pProg (badT f p w.1) = .error ((spn [] (badT f p w.1)).length - 2, w.2 + p) ∧ 2 ≤ (spn [] (badT f p w.1)).length := by
  have h3 : p ∈ [0, 1, 2] := by
    simp only [List.mem_cons, List.not_mem_nil, or_false]
    omega
  exact ⟨errOf_ok (of_decide_eq_true (List.all_eq_true.mp (List.all_eq_true.mp (List.all_eq_true.mp bad_tables w hw) f hf) p h3)), of_decide_eq_true (List.all_eq_true.mp (List.all_eq_true.mp (List.all_eq_true.mp bad_num.2 w hw) f hf) p h3)⟩
theorem lit_tabL : ("table t 1 2\n" : Str) = Tx tabL := by decide +kernel
theorem lit_lineA : ("a = x\n" : Str) = Tx lineA := by decide +kernel
theorem lit_endL : ("\nB\n" : Str) = Tx endL := by decide +kernel
theorem lit_fronts : [V.str ("" : Str), .str "\n", .str " \n"] = fronts.map fun n => V.str (Tx n) := by decide +kernel
/-- what the law holds -/
structure LwA (Pt Pf p lc l2 td : Addr) (H : Hp) (rs : List Addr) (ss : List LS) (kvs : List (Key × V)) (tn : Tn') (B : Int) : Prop where
  a1 : H l2 = some (.lst (rs.map V.ref))
  al : All2 (LsAt H) rs ss
  a2 : H td = some (.dK kvs)
  tb : TabK H kvs tn
  pe : Pen H p lc B
  ta : Tabs (TsLF Pt Pf) H
section
variable {Pt Pf p lc l2 td : Addr} {H H' : Hp} {rs : List Addr} {ss : List LS} {kvs : List (Key × V)} {tn : Tn'} {B B' : Int}
theorem LwA.same (h : LwA Pt Pf p lc l2 td H rs ss kvs tn B) (s : Same H H') : LwA Pt Pf p lc l2 td H' rs ss kvs tn B :=
  ⟨s _ _ h.a1, h.al.imp fun r x e => s _ _ e, s _ _ h.a2, h.tb.imp fun b zs e => s _ _ e, h.pe.same s, tabs_ext h.ta s⟩
theorem LwA.n (h : LwA Pt Pf p lc l2 td H rs ss kvs tn B) (e : ExtN H H') (t : Tabs (TsLF Pt Pf) H') : LwA Pt Pf p lc l2 td H' rs ss kvs tn B :=
  ⟨e _ _ h.a1 (fun _ z => by cases z), h.al.imp fun r x z => e _ _ z (fun _ z => by cases z), e _ _ h.a2 (fun _ z => by cases z), h.tb.imp fun b zs z => e _ _ z (fun _ z => by cases z), h.pe.n e, t⟩
theorem LwA.kp (h : LwA Pt Pf p lc l2 td H rs ss kvs tn B) (n2 : td ≠ p) (s : Kp p H H') (pe : Pen H' p lc B') : LwA Pt Pf p lc l2 td H' rs ss kvs tn B' :=
  ⟨s _ _ (h.pe.neLst h.a1) h.a1, h.al.imp fun r x e => s _ _ (h.pe.neTup e) e, s _ _ n2 h.a2, h.tb.imp fun b zs e => s _ _ (h.pe.neLst e) e, pe, tabs_kp h.pe s h.ta⟩
theorem LwA.more (h : LwA Pt Pf p lc l2 td H rs ss kvs tn B) (e : B ≤ B') : LwA Pt Pf p lc l2 td H rs ss kvs tn B' := ⟨h.a1, h.al, h.a2, h.tb, h.pe.more e, h.ta⟩
end
section
variable {P : Program} {w : World} {K : PySem.W.Frag} {mg : Str → Option Value} {base : Heap} {CP CE : Addr} {C : Nat → Addr}
abbrev sLaw : Stmt := topS 51
theorem scLaw : FnScope ["_law_script", "_law_pen_here", "_law_steps", "_law_tables", "_law_text", "_law_name", "_law_one", "_law_made", "_law_step", "_law_x", "_law_due", "_law_found", "_law_odd", "_law_pad", "_law_front", "_law_wrong", "_law_column", "_law_early", "_law_bare", "_law_none"] ["_law_script"] (defScope sLaw) := ⟨rfl, rfl, rfl, by decide +kernel, rfl, by decide +kernel, by decide +kernel⟩
theorem ok_law {f : Addr} {fd : FuncData} (F : Fun K "law" "law" sLaw f fd) (T : Bk mg) (W : W76 K mg C CE) (hm1 : M1 base) (c Pt Pf : Addr) (hPf : Pf ≠ Pt) (hfc : fd.code = .ref c) (hTB : LamX.TabB base mg c Pt) (Y : Yy K mg) (PM : PrM P w K mg base CP (C 0)) (PR_ : PrC K mg CP) (M_all_at : Mr P w K mg base CP "all_at" 4 ["self", "x"] (spAll K CP (C 1) (C 2))) (M_at : Mr P w K mg base CP "at" 5 ["self", "x"] (spPAt K CP (C 1) (C 2)))
    (G__law_pen : Df P w K mg base "_law_pen" 1 ["_law_script"] (spPen K)) (G__law_draw : Df P w K mg base "_law_draw" 1 ["_law_pen_here", "_law_many"] spDraw) (G__law_pick : Df P w K mg base "_law_pick" 2 ["_law_pen_here", "_law_some"] spPick)
    (G__law_program : Df P w K mg base "_law_program" 4 ["_law_pen_here", "_law_many", "_law_budget", "_law_degree"] spProg) (G__law_with_tables : Df P w K mg base "_law_with_tables" 3 ["_law_pen_here", "_law_steps"] spWith) (G__law_loose_text : Df P w K mg base "_law_loose_text" 3 ["_law_pen_here", "_law_steps"] spLoose)
    (G__law_run : Df P w K mg base "_law_run" 1 ["_law_steps", "_law_tables", "_law_x"] spRun) (G__law_wrong_line : Df P w K mg base "_law_wrong_line" 3 ["_law_pen_here"] (spWays waysL)) (G__law_wrong_table : Df P w K mg base "_law_wrong_table" 3 ["_law_pen_here"] (spWays waysT)) (G__law_fixed_right : Df P w K mg base "_law_fixed_right" 16 [] (spFixR Pf)) : FnG P w K mg base CX0 17 f fd ["_law_script"] (spLaw K Pt Pf) := by
  refine fnG_of1 F scLaw (fun vs H Q E h => ?_) (fun cdv A outer s H0 vs Q E hgu hr hcd h => ?_)
  · obtain ⟨a, ns, rfl, _⟩ := h
    rfl
  · obtain ⟨sc, ns, rfl, hS, hns, hPt, hPf0, kend⟩ := h
    have hcd : cdv = .ref c := hcd.symm.trans hfc
    refine ⟨_, (pss_cons (ps_set (i := 1) scLaw.nd rfl (Or.inl rfl) (pe_call G__law_pen.ok (hr.mono (by decide)) rfl G__law_pen.m G__law_pen.kp G__law_pen.b .nil pass0 (pa_cons (pv 0) pa_nil)))
  (pss_cons (ps_asg (pe_tup (pa_cons (pe_call G__law_program.ok (hr.mono (by decide)) rfl G__law_program.m G__law_program.kp G__law_program.b .nil pass0 (pa_cons (pv 1) (pa_cons (pe_op op_add pe_int (pe_call G__law_draw.ok (hr.mono (by decide)) rfl G__law_draw.m G__law_draw.kp G__law_draw.b .nil pass0 (pa_cons (pv 1) (pa_cons pe_int pa_nil)))) (pa_cons pe_int (pa_cons pe_int pa_nil))))) (pa_cons pe_dnewK pa_nil))) (pg_tup (by rfl) (pgs_cons (pg_name (i := 2) scLaw.nd rfl (Or.inl rfl)) (pgs_cons (pg_name (i := 3) scLaw.nd rfl (Or.inr rfl)) pgs_nil))))
  (C8.pss_cut (ps_if (pt_cmpR op_eq (pe_call G__law_draw.ok (hr.mono (by decide)) rfl G__law_draw.m G__law_draw.kp G__law_draw.b .nil pass0 (pa_cons (pv 1) (pa_cons pe_int pa_nil))) pe_int (nomark _))
    (pss_one (ps_asg (pe_call G__law_with_tables.ok (hr.mono (by decide)) rfl G__law_with_tables.m G__law_with_tables.kp G__law_with_tables.b .nil pass0 (pa_cons (pv 1) (pa_cons (pv 2) pa_nil))) (pg_tup (by rfl) (pgs_cons (pg_name (i := 3) scLaw.nd rfl (Or.inr rfl)) (pgs_cons (pg_name (i := 2) scLaw.nd rfl (Or.inl rfl)) pgs_nil)))))
    pss_nil)
  (pss_cons (ps_set (i := 4) scLaw.nd rfl (Or.inr rfl) (by
          apply pe_join pe_str
          · apply pe_lock; apply pe_lc (own := [("_law_name", 5)]) (g := (gName 5)) (tt := tYes) rfl scLaw.nd (pi_keys (pv 3)) (blkOk_by (N := ["_law_script", "_law_pen_here", "_law_steps", "_law_tables", "_law_text", "_law_name", "_law_one", "_law_made", "_law_step", "_law_x", "_law_due", "_law_found", "_law_odd", "_law_pad", "_law_front", "_law_wrong", "_law_column", "_law_early", "_law_bare", "_law_none"]) (sc := defScope sLaw) (by decide +kernel)) (fun _ _ _ _ _ => pg_name (i := 5) scLaw.nd rfl (Or.inl rfl)) (fun _ _ _ _ _ => pts_nil)
            · intro _ _ _ _ _
              exact (pe_op op_add_str (pe_op op_add_str (pe_op op_add_str pe_str (pv 5)) (by
                    apply pe_joinK (K := K) rfl pe_str
                    · apply pe_lc (own := [("_law_one", 6)]) (g := (gName 6)) (tt := tYes) rfl scLaw.nd (pi_seqK (K := K) rfl (pe_dget (hu1 hr.units) (pv 3) (pv 5) (fun _ _ => rfl))) blk2 (fun _ _ _ _ _ => pg_name (i := 6) scLaw.nd rfl (Or.inl rfl)) (fun _ _ _ _ _ => pts_nil)
                      · intro _ _ _ _ _
                        exact (pe_op op_add_str pe_str (pe_callTy call_str_lo (by rfl) T.str (by decide +kernel) (pa_cons (pv 6) pa_nil)))
                      all_goals (first | rfl | (intro _; rfl))
                    all_goals rfl)) pe_str)
            all_goals (first | rfl | (intro _; rfl))
          all_goals rfl))
  (pss_cons (ps_set (i := 4) scLaw.nd rfl (Or.inr rfl) (pe_op op_add_str (pv 4) (pe_call G__law_loose_text.ok (hr.mono (by decide)) rfl G__law_loose_text.m G__law_loose_text.kp G__law_loose_text.b .nil pass0 (pa_cons (pv 1) (pa_cons (pv 2) pa_nil)))))
  (C8.pss_cut (ps_set (i := 4) scLaw.nd rfl (Or.inr rfl) (pe_ifExp (pt_cmpR op_eq (pe_call G__law_draw.ok (hr.mono (by decide)) rfl G__law_draw.m G__law_draw.kp G__law_draw.b .nil pass0 (pa_cons (pv 1) (pa_cons pe_int pa_nil))) pe_int (nomark _)) (pv 4) (pe_m1 PySem.F.slot_str_rstrip PySem.F.type_str_rstrip mt_rstripChars (pv 4) pe_str)))
  (pss_cons (ps_set (i := 7) scLaw.nd rfl (Or.inr rfl) (pe_make PM.mkI PM.okI (hr.mono (by decide)) rfl PM.C.m PM.bI .nil passL (pa_cons (pv 4) pa_nil)))
  (pss_cons (ps_if (PW.pt (pw_or (pt_cmpR op_ne (pe_fld (pv 7) rfl) (pv 4) (nomark _)) (pw_or1 (pt_cmpR (op_neT hr.units hm1) (pe_fld (pv 7) rfl) (pe_callTy call_tuple_of (by rfl) T.tuple (by decide +kernel) (pa_cons (pe_lc (own := [("_law_step", 8)]) (g := (gName 8)) (tt := tYes) rfl scLaw.nd (pi_seq (pv 2)) (blkOk_by (N := ["_law_script", "_law_pen_here", "_law_steps", "_law_tables", "_law_text", "_law_name", "_law_one", "_law_made", "_law_step", "_law_x", "_law_due", "_law_found", "_law_odd", "_law_pad", "_law_front", "_law_wrong", "_law_column", "_law_early", "_law_bare", "_law_none"]) (sc := defScope sLaw) (by decide +kernel)) (fun _ _ _ _ _ => pg_name (i := 8) scLaw.nd rfl (Or.inl rfl)) (fun _ _ _ _ _ => pts_nil) (fun _ _ _ _ _ => (pe_ix (r := rIxT K) ix_tup (pv 8) pe_int (fun _ _ => rfl)))) pa_nil)) (nomark _)))))
    (pss_one (ps_ret pe_bl))
    pss_nil)
  (pss_cons (ps_for PassesOwn.never rfl (pi_seq (pe_lst (pa_cons pe_int (pa_cons pe_int (pa_cons pe_int (pa_cons (pe_call G__law_draw.ok (hr.mono (by decide)) rfl G__law_draw.m G__law_draw.kp G__law_draw.b .nil pass0 (pa_cons (pv 1) (pa_cons pe_int pa_nil))) (pa_cons (pe_call G__law_draw.ok (hr.mono (by decide)) rfl G__law_draw.m G__law_draw.kp G__law_draw.b .nil pass0 (pa_cons (pv 1) (pa_cons (pe_op op_pow pe_int pe_int) pa_nil))) (pa_cons (pe_op op_add (pe_op op_pow pe_int pe_int) (pe_call G__law_draw.ok (hr.mono (by decide)) rfl G__law_draw.m G__law_draw.kp G__law_draw.b .nil pass0 (pa_cons (pv 1) (pa_cons (pe_op op_pow pe_int pe_int) pa_nil)))) pa_nil)))))))) (pg_name (i := 9) scLaw.nd rfl (Or.inr rfl))
    (pss_cons (ps_set (i := 10) scLaw.nd rfl (Or.inl rfl) (pe_call G__law_run.ok (hr.mono (by decide)) rfl G__law_run.m G__law_run.kp G__law_run.b .nil pass0 (pa_cons (pv 2) (pa_cons (pv 3) (pa_cons (pv 9) pa_nil)))))
    (pss_one (ps_if (pt_cmpR op_isN (pv 10) pe_non (nomark _))
      (pss_cons (ps_set (i := 11) scLaw.nd rfl (Or.inl rfl) (pe_lst (pa_cons (LamX.pe_lamcall (T := TsLF Pt Pf) (TT := TWhy C) (k := 12) rfl Y.m Y.kp Y.lk Y.hc Y.b scWhy rfl (.inl rfl) (why_gives W) hTB hcd (by rw [qual_eq]; exact tsLF_mem Pt Pf) (by rw [qual_eq]; exact tsLF_only Pt Pf hPf) (hr.mono (by decide)) (show LamX.LamS (defScope sLaw) _ from LamX.lamS_by (by decide +kernel)) rfl (fun _ _ _ _ _ => rfl) (fun A' out' s' H' E' f' c' hr' => (pe_meth (pv 7) PR_.cl M_at.m M_at.ok (hr'.mono (by decide)) M_at.b .nil (E := E') (passes_call (takes_of rfl rfl rfl rfl) (fun _ _ _ _ h => h)) (pa_cons (pv 9) pa_nil)))) pa_nil)))
      (pss_cons (ps_expr (pe_bm PySem.F.plainAttrs_list PySem.F.slot_list_append PySem.F.type_list_append mt_append (pv 11) (pa_cons (LamX.pe_lamcall (T := TsLF Pt Pf) (TT := TWhy C) (k := 12) rfl Y.m Y.kp Y.lk Y.hc Y.b scWhy rfl (.inl rfl) (why_gives W) hTB hcd (by rw [qual_eq]; exact tsLF_mem Pt Pf) (by rw [qual_eq]; exact tsLF_only Pt Pf hPf) (hr.mono (by decide)) (show LamX.LamS (defScope sLaw) _ from LamX.lamS_by (by decide +kernel)) rfl (fun _ _ _ _ _ => rfl) (fun A' out' s' H' E' f' c' hr' => (pe_meth (pv 7) PR_.cl M_all_at.m M_all_at.ok (hr'.mono (by decide)) M_all_at.b .nil (E := E') (passes_call (takes_of rfl rfl rfl rfl) (fun _ _ _ _ h => h)) (pa_cons (pv 9) pa_nil)))) pa_nil)))
      (pss_one (ps_if (pt_cmpR (op_neT hr.units hm1) (pv 11) (pe_op op_rep (pe_lst (pa_cons (pe_lst (pa_cons pe_str (pa_cons pe_bl pa_nil))) pa_nil)) pe_int) (nomark _))
        (pss_one (ps_ret pe_bl))
        pss_nil))))
      (pss_one (ps_if (PW.pt (pw_or (pt_cmpR (op_neT hr.units hm1) (pe_meth (pv 7) PR_.cl M_all_at.m M_all_at.ok (hr.mono (by decide)) M_all_at.b .nil passL (pa_cons (pv 9) pa_nil)) (pe_callTy call_tuple_of (by rfl) T.tuple (by decide +kernel) (pa_cons (pv 10) pa_nil)) (nomark _)) (pw_or1 (pt_cmpR op_ne (pe_meth (pv 7) PR_.cl M_at.m M_at.ok (hr.mono (by decide)) M_at.b .nil passL (pa_cons (pv 9) pa_nil)) (pe_ix ix_list (pv 10) (pe_un un_neg pe_int) (fun _ _ => rfl)) (nomark _)))))
        (pss_one (ps_ret pe_bl))
        pss_nil))))))
  (pss_cons (ps_set (i := 12) scLaw.nd rfl (Or.inr rfl) (pe_call G__law_pick.ok (hr.mono (by decide)) rfl G__law_pick.m G__law_pick.kp G__law_pick.b .nil pass0 (pa_cons (pv 1) (pa_cons (pe_lst (pa_cons (pe_un un_neg pe_int) (pa_cons pe_non (pa_cons pe_str (pa_cons pe_bl (pa_cons (pe_tup (pa_cons pe_int pa_nil)) (pa_cons (pe_lst (pa_cons pe_int pa_nil)) pa_nil))))))) pa_nil))))
  (pss_cons (ps_if (pt_cmpR (op_neT hr.units hm1) (LamX.pe_lamcall (T := TsLF Pt Pf) (TT := TWhy C) (k := 12) rfl Y.m Y.kp Y.lk Y.hc Y.b scWhy rfl (.inl rfl) (why_gives W) hTB hcd (by rw [qual_eq]; exact tsLF_mem Pt Pf) (by rw [qual_eq]; exact tsLF_only Pt Pf hPf) (hr.mono (by decide)) (show LamX.LamS (defScope sLaw) _ from LamX.lamS_by (by decide +kernel)) rfl (fun _ _ _ _ _ => rfl) (fun A' out' s' H' E' f' c' hr' => (pe_meth (pv 7) PR_.cl M_at.m M_at.ok (hr'.mono (by decide)) M_at.b .nil (E := E') (passes_call (takes_of rfl rfl rfl rfl) (fun _ _ _ _ h => h)) (pa_cons (pv 12) pa_nil)))) (pe_lst (pa_cons pe_str (pa_cons (pv 12) (pa_cons pe_bl pa_nil)))) (nomark _))
    (pss_one (ps_ret pe_bl))
    pss_nil)
  (pss_cons (ps_if (pt_cmpR (op_neT hr.units hm1) (LamX.pe_lamcall (T := TsLF Pt Pf) (TT := TWhy C) (k := 12) rfl Y.m Y.kp Y.lk Y.hc Y.b scWhy rfl (.inl rfl) (why_gives W) hTB hcd (by rw [qual_eq]; exact tsLF_mem Pt Pf) (by rw [qual_eq]; exact tsLF_only Pt Pf hPf) (hr.mono (by decide)) (show LamX.LamS (defScope sLaw) _ from LamX.lamS_by (by decide +kernel)) rfl (fun _ _ _ _ _ => rfl) (fun A' out' s' H' E' f' c' hr' => (pe_meth (pv 7) PR_.cl M_all_at.m M_all_at.ok (hr'.mono (by decide)) M_all_at.b .nil (E := E') (passes_call (takes_of rfl rfl rfl rfl) (fun _ _ _ _ h => h)) (pa_cons (pv 12) pa_nil)))) (pe_lst (pa_cons pe_str (pa_cons (pv 12) (pa_cons pe_bl pa_nil)))) (nomark _))
    (pss_one (ps_ret pe_bl))
    pss_nil)
  (pss_cons (ps_par (i := 13) (j := 14) (by rfl) scLaw.nd rfl rfl (by decide) rfl rfl (pa_cons (pe_call G__law_draw.ok (hr.mono (by decide)) rfl G__law_draw.m G__law_draw.kp G__law_draw.b .nil pass0 (pa_cons (pv 1) (pa_cons pe_int pa_nil))) (pa_cons (pe_call G__law_pick.ok (hr.mono (by decide)) rfl G__law_pick.m G__law_pick.kp G__law_pick.b .nil pass0 (pa_cons (pv 1) (pa_cons (pe_lst (pa_cons pe_str (pa_cons pe_str (pa_cons pe_str pa_nil)))) pa_nil))) pa_nil)) (by rfl))
  (pss_cons (ps_asg (pe_call G__law_wrong_line.ok (hr.mono (by decide)) rfl G__law_wrong_line.m G__law_wrong_line.kp G__law_wrong_line.b .nil pass0 (pa_cons (pv 1) pa_nil)) (pg_tup (by rfl) (pgs_cons (pg_name (i := 15) scLaw.nd rfl (Or.inl rfl)) (pgs_cons (pg_name (i := 16) scLaw.nd rfl (Or.inl rfl)) pgs_nil))))
  (pss_cons (ps_set (i := 4) scLaw.nd rfl (Or.inr rfl) (pe_op op_add_str (pe_op op_add_str (pe_op op_add_str (pe_op op_add_str (pe_op op_add_str pe_str (pv 14)) pe_str) (pe_op op_repG pe_str (pv 13))) (pv 15)) pe_str))
  (pss_cons (ps_if (pt_cmpR (op_neT hr.units hm1) (LamX.pe_lamcall (T := TsLF Pt Pf) (TT := TWhy C) (k := 12) rfl Y.m Y.kp Y.lk Y.hc Y.b scWhy rfl (.inl rfl) (why_gives W) hTB hcd (by rw [qual_eq]; exact tsLF_mem Pt Pf) (by rw [qual_eq]; exact tsLF_only Pt Pf hPf) (hr.mono (by decide)) (show LamX.LamS (defScope sLaw) _ from LamX.lamS_by (by decide +kernel)) rfl (fun _ _ _ _ _ => rfl) (fun A' out' s' H' E' f' c' hr' => (pe_make PM.mkI PM.okI (hr'.mono (by decide)) rfl PM.C.m PM.bI .nil (E := E') (passes_call (takes_of rfl rfl rfl rfl) (fun _ _ _ _ h => h)) (pa_cons (pv 4) pa_nil)))) (pe_lst (pa_cons (pe_op op_sub (pe_callB call_len_seq (by rfl) T.len (by decide +kernel) (pa_cons (pe_split (pv 4) pe_str) pa_nil)) pe_int) (pa_cons (pe_op op_add (pv 16) (pv 13)) (pa_cons pe_bl pa_nil)))) (nomark _))
    (pss_one (ps_ret pe_bl))
    pss_nil)
  (pss_cons (ps_asg (pe_call G__law_wrong_table.ok (hr.mono (by decide)) rfl G__law_wrong_table.m G__law_wrong_table.kp G__law_wrong_table.b .nil pass0 (pa_cons (pv 1) pa_nil)) (pg_tup (by rfl) (pgs_cons (pg_name (i := 15) scLaw.nd rfl (Or.inl rfl)) (pgs_cons (pg_name (i := 16) scLaw.nd rfl (Or.inl rfl)) pgs_nil))))
  (pss_cons (ps_set (i := 17) scLaw.nd rfl (Or.inr rfl) (pe_op op_add_str (pe_op op_add_str (pe_op op_add_str (pe_op op_add_str pe_str (pv 14)) (pe_op op_repG pe_str (pv 13))) (pv 15)) pe_str))
  (pss_cons (ps_if (pt_cmpR (op_neT hr.units hm1) (LamX.pe_lamcall (T := TsLF Pt Pf) (TT := TWhy C) (k := 12) rfl Y.m Y.kp Y.lk Y.hc Y.b scWhy rfl (.inl rfl) (why_gives W) hTB hcd (by rw [qual_eq]; exact tsLF_mem Pt Pf) (by rw [qual_eq]; exact tsLF_only Pt Pf hPf) (hr.mono (by decide)) (show LamX.LamS (defScope sLaw) _ from LamX.lamS_by (by decide +kernel)) rfl (fun _ _ _ _ _ => rfl) (fun A' out' s' H' E' f' c' hr' => (pe_make PM.mkI PM.okI (hr'.mono (by decide)) rfl PM.C.m PM.bI .nil (E := E') (passes_call (takes_of rfl rfl rfl rfl) (fun _ _ _ _ h => h)) (pa_cons (pv 17) pa_nil)))) (pe_lst (pa_cons (pe_op op_sub (pe_callB call_len_seq (by rfl) T.len (by decide +kernel) (pa_cons (pe_split (pv 17) pe_str) pa_nil)) pe_int) (pa_cons (pe_op op_add (pv 16) (pv 13)) (pa_cons pe_bl pa_nil)))) (nomark _))
    (pss_one (ps_ret pe_bl))
    pss_nil)
  (pss_cons (ps_set (i := 18) scLaw.nd rfl (Or.inr rfl) (pe_call G__law_pick.ok (hr.mono (by decide)) rfl G__law_pick.m G__law_pick.kp G__law_pick.b .nil pass0 (pa_cons (pv 1) (pa_cons (pe_lst (pa_cons (pe_tup (pa_cons pe_str (pa_cons pe_int pa_nil))) (pa_cons (pe_tup (pa_cons pe_str (pa_cons pe_int pa_nil))) (pa_cons (pe_tup (pa_cons pe_str (pa_cons pe_int pa_nil))) (pa_cons (pe_tup (pa_cons pe_str (pa_cons pe_int pa_nil))) (pa_cons (pe_tup (pa_cons pe_str (pa_cons pe_int pa_nil))) pa_nil)))))) pa_nil))))
  (pss_cons (ps_if (pt_cmpR (op_neT hr.units hm1) (LamX.pe_lamcall (T := TsLF Pt Pf) (TT := TWhy C) (k := 12) rfl Y.m Y.kp Y.lk Y.hc Y.b scWhy rfl (.inl rfl) (why_gives W) hTB hcd (by rw [qual_eq]; exact tsLF_mem Pt Pf) (by rw [qual_eq]; exact tsLF_only Pt Pf hPf) (hr.mono (by decide)) (show LamX.LamS (defScope sLaw) _ from LamX.lamS_by (by decide +kernel)) rfl (fun _ _ _ _ _ => rfl) (fun A' out' s' H' E' f' c' hr' => (pe_make PM.mkI PM.okI (hr'.mono (by decide)) rfl PM.C.m PM.bI .nil (E := E') (passes_call (takes_of rfl rfl rfl rfl) (fun _ _ _ _ h => h)) (pa_cons (pe_ix (r := rIxT K) ix_tup (pv 18) pe_int (fun _ _ => rfl)) pa_nil)))) (pe_lst (pa_cons (pe_ix (r := rIxT K) ix_tup (pv 18) pe_int (fun _ _ => rfl)) (pa_cons pe_int (pa_cons pe_bl pa_nil)))) (nomark _))
    (pss_one (ps_ret pe_bl))
    pss_nil)
  (pss_cons (ps_set (i := 19) scLaw.nd rfl (Or.inr rfl) (pe_call G__law_pick.ok (hr.mono (by decide)) rfl G__law_pick.m G__law_pick.kp G__law_pick.b .nil pass0 (pa_cons (pv 1) (pa_cons (pe_lst (pa_cons pe_non (pa_cons pe_int (pa_cons (pe_lst (pa_cons pe_str pa_nil)) pa_nil)))) pa_nil))))
  (pss_one (ps_ret (pe_and (pe_cmpR (op_eqT hr.units hm1) (LamX.pe_lamcall (T := TsLF Pt Pf) (TT := TWhy C) (k := 12) rfl Y.m Y.kp Y.lk Y.hc Y.b scWhy rfl (.inl rfl) (why_gives W) hTB hcd (by rw [qual_eq]; exact tsLF_mem Pt Pf) (by rw [qual_eq]; exact tsLF_only Pt Pf hPf) (hr.mono (by decide)) (show LamX.LamS (defScope sLaw) _ from LamX.lamS_by (by decide +kernel)) rfl (fun _ _ _ _ _ => rfl) (fun A' out' s' H' E' f' c' hr' => (pe_make PM.mkI PM.okI (hr'.mono (by decide)) rfl PM.C.m PM.bI .nil (E := E') (passes_call (takes_of rfl rfl rfl rfl) (fun _ _ _ _ h => h)) (pa_cons (pv 19) pa_nil)))) (pe_lst (pa_cons pe_int (pa_cons pe_int (pa_cons pe_bl pa_nil)))) (nomark _)) (pe_one (pe_call0 G__law_fixed_right.ok (hr.mono (by decide)) rfl G__law_fixed_right.m G__law_fixed_right.kp G__law_fixed_right.b .nil pass0))))))))))))))))))))))))))), ?_⟩
    refine ⟨_, rfl, sc, ns, rfl, hS, hns, fun p lc H1 s1 np nlc hP => ?_⟩
    have T1 : Tabs (TsLF Pt Pf) H1 := tab_startLF (s1 _ _ hPt) (s1 _ _ hPf0)
    refine ⟨_, rfl, _, rfl, p, lc, 0, 12, rfl, hP, by decide, by decide, by decide, fun z H2 z0 z1 p2 k2 => ⟨_, _, rfl, rfl, ?_⟩⟩
    obtain ⟨n, rfl⟩ : ∃ n : Nat, z = n := ⟨z.toNat, by omega⟩
    have T2 := tabs_kp hP k2 T1
    refine ⟨p, lc, 1, 1 + n, (by show [V.ref p, V.int (1 + (n : Int)), V.int 60, V.int 4] = _; rw [show ((1 : Int) + (n : Int)) = ((1 + n : Nat) : Int) by omega]), p2, by decide, by omega, by omega, fun l rs ss dn H3 eL al wf mdn sl fit lp nl k3 p3 => ?_⟩
    have T3 := tabs_kp p2 k3 T2
    refine fun td ntd => ?_
    have s4 := same_upd (o := HO.dK []) ntd
    have etd : upd H3 td (HO.dK []) td = some (HO.dK []) := upd_same
    generalize upd H3 td (HO.dK []) = H4 at s4 etd ⊢
    have tdp : td ≠ p := fun e => by
      obtain ⟨o, h⟩ := p3.there
      rw [e, h] at ntd
      cases ntd
    refine ⟨(by show 2 ≤ sizeLine; decide), fun t0 nt0 => ⟨t0, _, rfl, SqT.of upd_same, rfl, _, _, rfl, _, _, rfl, rfl, ?_⟩⟩
    have s5 := s4.trans (same_upd (o := HO.tup [V.ref l, .ref td]) nt0)
    have etd5 := same_upd (o := HO.tup [V.ref l, .ref td]) nt0 _ _ etd
    generalize upd H4 t0 (HO.tup [V.ref l, .ref td]) = H5 at s5 etd5 ⊢
    have A0 : LwA Pt Pf p lc l td H5 rs ss [] [] 1001 := ⟨s5 _ _ eL, al.imp fun r x e => s5 _ _ e, etd5, .nil, p3.same s5, tabs_ext T3 s5⟩
    refine ⟨fun σ' H' => ∃ (l2 td : Addr) (rs2 : List Addr) (ss2 : List LS) (tn : Tn') (kvs : List (Key × V)), σ' = [some (.ref sc), some (.ref p), some (.ref l2), some (.ref td), none, none, none, none, none, none, none, none, none, none, none, none, none, none, none, none] ∧ LwA Pt Pf p lc l2 td H' rs2 ss2 kvs tn 3000 ∧ Wf tn ss2 dn ∧ TnOk tn ∧ tn.length ≤ 2 ∧ (∀ p ∈ tn, p.2.length ≤ 9) ∧ ss2.length = ss.length ∧ (∀ s ∈ ss2, StFit s) ∧ td ≠ p, ?_, ?_⟩
    · refine ⟨_, rfl, p, lc, _, 2, rfl, A0.pe, by decide, by decide, by decide, fun y H6 y0 y1 p6 k6 => ⟨rfl, _, rfl, ?_⟩⟩
      have A1 := A0.kp tdp k6 p6
      by_cases hy : y = 0
      · rw [decide_eq_true (show V.int y = V.int 0 by rw [hy])]
        refine iteT ?_
        refine ⟨_, rfl, _, rfl, p, lc, l, _, rs, ss, dn, rfl, A1.pe, by decide, A1.a1, A1.al, wf, mdn, by omega, fit, fun t td' l2 rs2 ss2 tn kvs H7 et e1 tk tok t2 t9 e2 al2 wf2 sl2 fit2 tdp' k7 p7 => ?_⟩
        refine ⟨t, _, rfl, SqT.of et, rfl, _, _, rfl, _, _, rfl, rfl, ?_⟩
        exact ⟨l2, td', rs2, ss2, tn, kvs, rfl, ⟨e2, al2, e1, tk, p7.more (by decide), tabs_kp A1.pe k7 A1.ta⟩, wf2, tok, t2, t9, sl2, fit2, tdp'⟩
      · rw [decide_eq_false (fun z => hy (V.int.inj z))]
        refine iteF ?_
        exact ⟨l, td, rs, ss, [], [], rfl, A1.more (by decide), wf, .nil, by decide, (fun p h => by cases h), rfl, fit, tdp⟩
    clear A0 etd5 s5 s4 etd tdp ntd T3 T2 T1
    rintro σ' H6 ⟨l2, td, rs2, ss2, tn, kvs, rfl, A, wf2, tok, tl2, tl9, sl2, fit2, tdp⟩
    -- the tables' text
    refine ⟨⟨_, rfl⟩, td, .dK kvs, A.a2, trivial, fun od => ?_⟩
    have cut : ∀ {H' : Hp}, Same (upd H6 td (.frz od (.dK kvs))) H' → Same H6 (upd H' td (.dK kvs)) := fun {H'} s b o e => by
      by_cases hb : b = td
      · rw [hb, A.a2] at e
        cases e
        rw [hb]
        exact upd_same
      · rw [upd_ne hb]
        exact s _ _ (by rw [upd_ne hb]; exact e)
    refine ⟨_, rfl, td, od, rfl, .inl ⟨kvs, upd_same, fun D nD => lc_it (walk_keys (o := od)) (fun i H' => Same (upd H6 td (.frz od (.dK kvs))) H' ∧ H' D = some (.lst (((tn.take i).map fun p => tableT p.1 p.2 ++ [10]).map fun l => V.str (Tx l)))) ⟨same_upd nD, upd_same⟩ (fun i H' _ ⟨s, _⟩ => s _ _ upd_same) ?_ ?_⟩⟩
    · rintro i x H8 H7 hi ⟨s7, eD⟩ ⟨rfl, k, v, hk, rfl⟩
      obtain ⟨n1, zs, rfl, ht⟩ := A.tb.at hk
      have hn1 := List.mem_of_getElem? ht
      obtain ⟨a, zs', g1, g2, g3⟩ := A.tb.get (List.mem_map.mpr ⟨_, hn1, rfl⟩)
      rw [tok.uniq ht, ht] at g3
      cases g3
      have ne : a ≠ td := fun e => by rw [e, A.a2] at g2; cases g2
      have g7 : H7 a = some (.lst (zs.map V.int)) := s7 _ _ (by rw [upd_ne ne]; exact g2)
      have d7 : H7 td = some (.frz od (.dK kvs)) := s7 _ _ upd_same
      have zf : ∀ z ∈ zs, z.natAbs < 2 ^ 97 := tok.fine _ hn1
      have nm : Nm n1 := tok.nm _ hn1
      have z9 : zs.length ≤ 9 := tl9 _ hn1
      obtain ⟨tl, nl9⟩ := table_len nm zf z9
      have nlen := nm.len
      refine ⟨rfl, ?_⟩
      rw [lit_tablesp]
      refine ⟨_, rfl, _, _, rfl, rfl, tx_catB (by show 6 + _ ≤ _; omega), ?_⟩
      rw [tx_app]
      refine ⟨⟨_, rfl⟩, _, rfl, _, rfl, td, .ref a, rfl, .inl ⟨kvs, .inr (Tx n1), .inr ⟨od, d7⟩, rfl, g1.symm⟩, a, rfl, lc_seq (xs := zs.map V.int) (.inl (SqL.of g7)) (fun D2 j H9 => Same H7 H9 ∧ H9 D2 = some (.lst (((zs.take j).map fun z => 32 :: intT z).map fun l => V.str (Tx l)))) ?_ ?_ ?_ ?_⟩
      · intro D2 nD2
        exact ⟨same_upd nD2, upd_same⟩
      · intro D2 j H9 nD2 ⟨s9, _⟩
        exact ⟨same_sqL s9, same_sqT s9⟩
      · intro D2 j xv H9 nD2 hj ⟨s9, eD2⟩
        obtain ⟨z, hz1, rfl⟩ : ∃ z, zs[j]? = some z ∧ xv = V.int z := by
          rw [List.getElem?_map] at hj
          cases h : zs[j]? with
          | none => rw [h] at hj; cases hj
          | some z => rw [h] at hj; exact ⟨z, rfl, (Option.some.inj hj).symm⟩
        have zz := zf z (List.mem_of_getElem? hz1)
        have l32 : (intT z).length ≤ 32 := sho_len (o := .nu z) zz
        have jl := (List.getElem?_eq_some_iff.mp hz1)
        refine ⟨rfl, ?_⟩
        rw [lit_sp]
        refine ⟨_, rfl, .nu z, rfl, zz, _, _, rfl, rfl, tx_catB (b := shO (.nu z)) (by show 1 + (intT z).length ≤ _; omega), ?_⟩
        rw [tx_app]
        refine ⟨_, eD2, (by rw [List.length_map, List.length_map, List.length_take, sizeLine_eq]; omega), fun b o eb => ?_, ?_⟩
        · rw [upd_ne (ne_of_none eb nD2)]
          exact s9 _ _ eb
        · rw [upd_same, List.take_succ_eq_append_getElem jl.1, jl.2, List.map_append, List.map_append]
          rfl
      · intro D2 H9 nD2 ⟨s9, eD2⟩
        rw [List.length_map, List.take_length] at eD2
        refine ⟨_, D2, (zs.map fun z => 32 :: intT z).map Tx, rfl, rfl, .inl (SqL.of (by rw [strs_eq]; exact eD2)), (by rw [join_sum, nums_flat]; omega), ?_⟩
        rw [join_tx, nums_flat]
        refine ⟨_, _, rfl, rfl, tx_catB (by rw [List.length_append]; show 6 + _ + _ ≤ _; omega), ?_⟩
        rw [tx_app, lit_nl]
        refine ⟨_, _, rfl, rfl, tx_catB (by rw [List.length_append, List.length_append]; show 6 + _ + _ + 1 ≤ _; omega), ?_⟩
        rw [tx_app]
        have ete : tableW ++ [32] ++ n1 ++ numsT zs ++ [10] = tableT n1 zs ++ [10] := by
          unfold tableT
          simp only [List.append_assoc, List.cons_append, List.nil_append]
        rw [ete]
        have il := (List.getElem?_eq_some_iff.mp ht)
        refine ⟨_, s9 _ _ eD, (by rw [List.length_map, List.length_map, List.length_take, sizeLine_eq]; omega), fun b o eb => ?_, ?_⟩
        · rw [upd_ne (ne_of_none eb nD)]
          exact s9 _ _ (s7 _ _ eb)
        · rw [upd_same, List.take_succ_eq_append_getElem il.1, il.2, List.map_append, List.map_append]
          rfl
    · rintro H7 ⟨s7, eD⟩
      rw [A.tb.len, List.take_length] at eD
      refine ⟨s7 _ _ upd_same, ?_⟩
      have s8 := cut s7
      have Dtd : D ≠ td := fun e => by rw [e, upd_same] at nD; cases nD
      have eD8 : upd H7 td (.dK kvs) D = some (.lst ((tn.map fun p => tableT p.1 p.2 ++ [10]).map fun l => V.str (Tx l))) := by rw [upd_ne Dtd]; exact eD
      generalize upd H7 td (.dK kvs) = H8 at s8 eD8 ⊢
      have tlen := tabs_len tok tl9
      have eflat : (tn.map fun p => tableT p.1 p.2 ++ [10]).flatten = joinN (tn.map fun p => tableT p.1 p.2) := by
        rw [← joinN_flat, List.map_map]
        rfl
      refine ⟨_, D, (tn.map fun p => tableT p.1 p.2 ++ [10]).map Tx, rfl, rfl, .inl (SqL.of (by rw [strs_eq]; exact eD8)), (by rw [join_sum, eflat]; omega), ?_⟩
      rw [join_tx, eflat]
      have A1 := A.same s8
      clear eD8 eD s7 s8 Dtd nD cut
      have l2p := A1.pe.neLst A1.a1
      refine ⟨_, rfl, _, rfl, _, rfl, p, lc, l2, 3000, rs2, ss2, rfl, A1.pe, by decide, A1.a1, A1.al, l2p, (fun r hr => by obtain ⟨x, _, hx⟩ := A1.al.mem hr; exact A1.pe.neTup hx), by omega, fit2, fun ls H9 prt len k9 p9 => ?_⟩
      have A2 := A1.kp tdp k9 p9
      refine ⟨_, _, rfl, rfl, tx_catB (by omega), ?_⟩
      rw [tx_app, ← joinN_app]
      have h10 : ∀ l ∈ (tn.map fun p => tableT p.1 p.2) ++ ls, 10 ∉ l := fun l hl => by
        rcases List.mem_append.mp hl with h | h
        · obtain ⟨q, hq, rfl⟩ := List.mem_map.mp h
          exact no10_table (tok.nm q hq)
        · exact prt.no10 (fun s hs => ⟨(fit2 s hs).2.1, (fit2 s hs).2.2.1, (wf2.no10 s hs).1, (wf2.no10 s hs).2⟩) l h
      obtain ⟨env, hread⟩ := read_prog tok prt wf2
      have sne : ss2.map (toStp tn dn) ≠ [] := fun z => by
        have z := List.map_eq_nil_iff.mp z
        rw [z] at sl2
        have z2 : 0 = ss.length := sl2
        omega
      have tlen2 : (joinN ((tn.map fun p => tableT p.1 p.2) ++ ls)).length ≤ 4300 := by
        rw [joinN_app, List.length_append]
        omega
      refine ⟨fun σ' H' => ∃ t : List Nat, σ' = [some (.ref sc), some (.ref p), some (.ref l2), some (.ref td), some (.str (Tx t)), none, none, none, none, none, none, none, none, none, none, none, none, none, none, none] ∧ t.length ≤ 4300 ∧ pProg t = .ok ⟨tn.map (·.2), ss2.map (toStp tn dn), env⟩ ∧ LwA Pt Pf p lc l2 td H' rs2 ss2 kvs tn 3200, ?_, ?_⟩
      · refine ⟨_, rfl, p, lc, _, 2, rfl, A2.pe, by decide, by decide, by decide, fun y H10 y0 y1 p10 k10 => ⟨rfl, _, rfl, ?_⟩⟩
        have A3 := (A2.kp tdp k10 p10).more (show (3000 : Int) + 100 + 1 ≤ 3200 by decide)
        by_cases hy : y = 0
        · rw [decide_eq_true (show V.int y = V.int 0 by rw [hy])]
          refine iteT ?_
          exact ⟨_, rfl, _, rfl, tlen2, prog_of (by rw [lns_join h10]; exact hread) sne, A3⟩
        · rw [decide_eq_false (fun z => hy (V.int.inj z))]
          refine iteF ?_
          refine ⟨_, rfl, ⟨_, rfl⟩, _, _, rfl, rfl, (by rw [tx_len, sizeLine_eq]; omega), ?_⟩
          rw [rstrip_tx]
          exact ⟨_, rfl, Nat.le_trans (stripT_len _) tlen2, prog_of (strip_lines _ rfl h10 hread) sne, A3⟩
      clear tlen2 h10 hread A2 A1 p9 k9 prt len tlen A al
      rintro σ' H9 ⟨t, rfl, tl, hprog, A⟩
      refine ⟨_, rfl, pr_right (by unfold LL; omega) hprog (fun x T S N H10 s10 nx hPr => ?_)⟩
      obtain ⟨dx, ex⟩ := hPr.ins
      have hA := A.same s10
      clear A
      refine ⟨_, rfl, x, CP, dx, _, .str (Tx t), rfl, ex, PR_.cl, PR_.nX, (by kernel_rfl), _, rfl, rfl, _, rfl, ?_⟩
      rw [decide_eq_true (show V.str (Tx t) = V.str (Tx t) from rfl)]
      refine iteF ?_
      refine ⟨_, rfl, x, CP, dx, _, .ref N, rfl, ex, PR_.cl, PR_.nN, (by kernel_rfl), ?_⟩
      refine ⟨_, rfl, l2, rfl, lc_seq (xs := rs2.map V.ref) (.inl (SqL.of hA.a1)) (fun D j H' => Same H10 H' ∧ H' D = some (.lst (((ss2.map (·.name)).take j).map fun n => V.str (Tx n)))) ?_ ?_ ?_ ?_⟩
      · intro D nD
        exact ⟨same_upd nD, upd_same⟩
      · intro D j H' nD ⟨s4, _⟩
        exact ⟨same_sqL s4, same_sqT s4⟩
      · intro D j xv H' nD hj ⟨s4, eD⟩
        obtain ⟨r2, hr2, rfl⟩ : ∃ r, rs2[j]? = some r ∧ xv = V.ref r := by
          rw [List.getElem?_map] at hj
          cases h : rs2[j]? with
          | none => rw [h] at hj; cases hj
          | some r => rw [h] at hj; exact ⟨r, rfl, (Option.some.inj hj).symm⟩
        obtain ⟨s3, hs3, er3⟩ := hA.al.at hr2
        have er3 : H10 r2 = some (.tup [.str (Tx s3.name), .str (Tx s3.sign), loV s3.one, loV s3.oth]) := er3
        have jl := (List.getElem?_eq_some_iff.mp hs3).1
        refine ⟨rfl, ?_⟩
        refine ⟨_, rfl, r2, _, 0, V.str (Tx s3.name), rfl, rfl, SqT.of (s4 _ _ er3), rfl, ?_⟩
        have stk2 : (ss2.map (·.name)).take (j + 1) = (ss2.map (·.name)).take j ++ [s3.name] := by
          rw [List.take_succ_eq_append_getElem (by rw [List.length_map]; exact jl), List.getElem_map, (List.getElem?_eq_some_iff.mp hs3).2]
        refine ⟨_, eD, (by rw [List.length_map, List.length_take, List.length_map, sizeLine_eq]; omega), fun b o eb => ?_, ?_⟩
        · rw [upd_ne (ne_of_none eb nD)]
          exact s4 _ _ eb
        · rw [upd_same, stk2, List.map_append]
          rfl
      intro D H11 nD ⟨s4, eD⟩
      rw [List.length_map, hA.al.len, List.take_of_length_le (by rw [List.length_map]; exact Nat.le_refl _)] at eD
      refine ⟨D, _, rfl, .inl ⟨SqL.of eD, fun tq ntq => ?_⟩⟩
      have s12 := s4.trans (same_upd (o := HO.tup ((ss2.map (·.name)).map fun n => V.str (Tx n))) ntq)
      have eN : upd H11 tq (HO.tup ((ss2.map (·.name)).map fun n => V.str (Tx n))) N = some (.tup ((ss2.map (·.name)).map fun n => V.str (Tx n))) := by
        have h : H10 N = some (.tup ((ss2.map (toStp tn dn)).map fun s => V.str (Tx s.name))) := hPr.names
        rw [prog_names] at h
        exact s12 _ _ h
      refine ne_strs eN upd_same ?_
      have hA1 := hA.same s12
      have hPr1 := hPr.same s12
      clear hPr ex eN s4 eD ntq nD hA
      generalize upd H11 tq (HO.tup ((ss2.map (·.name)).map fun n => V.str (Tx n))) = H12 at hA1 hPr1 ⊢
      refine ⟨_, rfl, ?_⟩
      refine iteF ?_
      refine ⟨_, rfl, p, lc, _, 100, rfl, hA1.pe, by decide, by decide, by decide, fun z3 H13 z30 z31 p13 k13 => ?_⟩
      have hA2 := hA1.kp tdp k13 p13
      refine ⟨_, rfl, _, _, rfl, rfl, (by unfold CPow; decide +kernel), p, lc, _, _, rfl, hA2.pe, by decide, by decide, by decide, fun z4 H14 z40 z41 p14 k14 => ?_⟩
      have hA3 := hA2.kp tdp k14 p14
      refine ⟨_, _, rfl, rfl, (by unfold CPow; decide +kernel), _, rfl, _, _, rfl, rfl, (by unfold CPow; decide +kernel), p, lc, _, _, rfl, hA3.pe, by decide, by decide, by decide, fun z5 H15 z50 z51 p15 k15 => ?_⟩
      have hA4 := hA3.kp tdp k15 p15
      have hPr4 := ((hPr1.kp hA1.pe k13).kp hA2.pe k14).kp hA3.pe k15
      refine ⟨_, _, rfl, rfl, (by show 6 ≤ sizeLine; decide), fun L nL => ?_⟩
      have hxs : ∀ xv ∈ [V.int 0, .int 1, .int 7, .int z3, .int z4, .int (10 ^ (40 : Int).toNat + z5)], ∃ z : Int, xv = V.int z ∧ 0 ≤ z ∧ z.natAbs < 2 ^ 139 := fun xv h => by
        have e40 : (10 : Int) ^ (40 : Int).toNat = 10000000000000000000000000000000000000000 := by decide +kernel
        have e6 : (10 : Int) ^ (6 : Int).toNat = 1000000 := by decide
        have e9 : (10 : Int) ^ (9 : Int).toNat = 1000000000 := by decide
        have e139 : (2 : Nat) ^ 139 = 696898287454081973172991196020261297061888 := by decide +kernel
        have z41 : z4 < 10 ^ (6 : Int).toNat := z41
        have z51 : z5 < 10 ^ (9 : Int).toNat := z51
        rw [e6] at z41
        rw [e9] at z51
        rw [e40] at h
        rw [e139]
        simp only [List.mem_cons, List.not_mem_nil, or_false] at h
        rcases h with rfl | rfl | rfl | rfl | rfl | rfl
        · exact ⟨_, rfl, by decide, by decide⟩
        · exact ⟨_, rfl, by decide, by decide⟩
        · exact ⟨_, rfl, by decide, by decide⟩
        · exact ⟨_, rfl, z30, by omega⟩
        · exact ⟨_, rfl, z40, by omega⟩
        · exact ⟨_, rfl, by omega, by omega⟩
      generalize [V.int 0, .int 1, .int 7, .int z3, .int z4, .int (10 ^ (40 : Int).toNat + z5)] = xs at hxs ⊢
      have sL := same_upd (o := HO.lst xs) nL
      have eL : upd H15 L (HO.lst xs) L = some (HO.lst xs) := upd_same
      have hA5 := (hA4.same sL).more (show (3200 : Int) + 1 + 1 + 1 ≤ 3210 by decide)
      have hPr5 := hPr4.same sL
      generalize upd H15 L (HO.lst xs) = H16 at eL hA5 hPr5 ⊢
      clear sL nL hA4 hPr4 hA3 hA2 k15 k14 k13 p15 p14 p13 hA1 hPr1
      have steps12 : (ss2.map (toStp tn dn)).length ≤ LL := by rw [List.length_map]; unfold LL; omega
      refine ⟨L, rfl, .inl ⟨_, SqL.of eL, for_list (xs := xs) (fun i σ H' => ∃ v9 v10 v11 : Option V, σ = [some (.ref sc), some (.ref p), some (.ref l2), some (.ref td), some (.str (Tx t)), none, none, some (.ref x), none, v9, v10, v11, none, none, none, none, none, none, none, none] ∧ LwA Pt Pf p lc l2 td H' rs2 ss2 kvs tn 3210 ∧ PrAt CP H' x t (tn.map (·.2)) (ss2.map (toStp tn dn)) T S N ∧ H' L = some (HO.lst xs))
        ⟨none, none, none, rfl, hA5, hPr5, eL⟩ (fun i σ H' _ ⟨_, _, _, _, _, _, e⟩ => SqL.of e) ?_ ?_⟩⟩
      · rintro i xv σ H17 hx ⟨v9, v10, v11, rfl, hA6, hPr6, eL6⟩
        obtain ⟨z, rfl, z0, z139⟩ := hxs xv (List.mem_of_getElem? hx)
        have zbig : z.natAbs < 2 ^ BigZ := Nat.lt_of_lt_of_le z139 (Nat.pow_le_pow_right (by decide) (by decide))
        obtain ⟨dx6, ex6⟩ := hPr6.ins
        refine ⟨_, rfl, _, rfl, _, rfl, l2, td, rs2, ss2, tn, dn, z, kvs, rfl, hA6.a1, hA6.al, wf2, tok, hA6.a2, hA6.tb, by omega, z139, fun hrun H18 s18 => ?_, fun fs hrun pf H18 s18 npf epf => ?_⟩
        · have hA7 := hA6.same s18
          have hPr7 := hPr6.same s18
          have eL7 := s18 _ _ eL6
          refine ⟨_, rfl, rfl, _, rfl, ?_⟩
          rw [decide_eq_true (show V.non = V.non from rfl)]
          refine iteT ?_
          refine ⟨hA7.ta, fun H19 e19 T19 H20 k20 s20 => ?_⟩
          refine pat_ev rfl rfl ((hPr7.n e19).same s20) steps12 (.int z) (fun z' e h0 => ?_) (fun e => absurd z0 (of_decide_eq_false e))
          cases e
          refine ⟨zbig, none, hrun, fun H21 s21 => .inr (.inr ⟨rfl, rfl, fun tq H22 s22 etq => ?_⟩)⟩
          have s222 := s20.trans (s21.trans s22)
          have e22 := e19.trans (ExtN.of s222)
          have hA8 := hA7.n e22 (tabs_ext T19 s222)
          have hPr8 := hPr7.n e22
          have eL8 : H22 L = some (.lst xs) := e22 _ _ eL7 (fun _ z => by cases z)
          refine ⟨(by show 1 ≤ sizeLine; decide), fun l11 n11 => ?_⟩
          have s23 := same_upd (o := HO.lst [V.ref tq]) n11
          have e11 : upd H22 l11 (HO.lst [V.ref tq]) l11 = some (.lst [.ref tq]) := upd_same
          have etq23 := s23 _ _ etq
          generalize upd H22 l11 (HO.lst [V.ref tq]) = H23 at s23 e11 etq23 ⊢
          refine ⟨_, rfl, .inl ⟨rfl, _, SqL.of e11⟩, (hA8.same s23).ta, fun H24 e24 T24 H25 k25 s25 => ?_⟩
          refine pall_ev rfl rfl (((hPr8.same s23).n e24).same s25) steps12 (.int z) (fun z' e h0 => ?_) (fun e => absurd z0 (of_decide_eq_false e))
          cases e
          refine ⟨zbig, none, hrun, fun H26 s26 => .inr (.inr ⟨rfl, rfl, fun tq2 H27 s27 etq2 => ?_⟩)⟩
          have s247 := s25.trans (s26.trans s27)
          have e27 := e24.trans (ExtN.of s247)
          have e11' : H27 l11 = some (.lst [.ref tq]) := e27 _ _ e11 (fun _ z => by cases z)
          have etq27 : H27 tq = some (.lst [.str "wide", .bl true]) := e27 _ _ etq23 (fun _ z => by cases z)
          have T27 := tabs_ext T24 s247
          refine ⟨l11, _, _, rfl, rfl, e11', (by show 1 < sizeLine; decide), ?_⟩
          have T28 := tabs_updL (o := HO.lst ([V.ref tq] ++ [V.ref tq2])) T27 e11'
          have e28 : ExtN H22 (upd H27 l11 (HO.lst ([V.ref tq] ++ [V.ref tq2]))) := fun b o e n => by
            rw [upd_ne (ne_of_none e n11)]
            exact e27 _ _ (s23 _ _ e) n
          have ne1 : tq ≠ l11 := ne_of_none etq n11
          have ne2 : tq2 ≠ l11 := fun e => by
            rw [e, e11'] at etq2
            cases etq2
          have g11 : upd H27 l11 (HO.lst ([V.ref tq] ++ [V.ref tq2])) l11 = some (.lst [.ref tq, .ref tq2]) := upd_same
          have g1 : upd H27 l11 (HO.lst ([V.ref tq] ++ [V.ref tq2])) tq = some (.lst [.str "wide", .bl true]) := by rw [upd_ne ne1]; exact etq27
          have g2 : upd H27 l11 (HO.lst ([V.ref tq] ++ [V.ref tq2])) tq2 = some (.lst [.str "wide", .bl true]) := by rw [upd_ne ne2]; exact etq2
          generalize upd H27 l11 (HO.lst ([V.ref tq] ++ [V.ref tq2])) = H28 at T28 e28 g11 g1 g2 ⊢
          have hA9 := hA8.n e28 T28
          have hPr9 := hPr8.n e28
          have eL9 : H28 L = some (.lst xs) := e28 _ _ eL8 (fun _ z => by cases z)
          refine ⟨_, rfl, (by show 2 ≤ sizeLine; decide), fun a1 na1 => ?_⟩
          have sa1 := same_upd (o := HO.lst [V.str "wide", .bl true]) na1
          have ea1 : upd H28 a1 (HO.lst [V.str "wide", .bl true]) a1 = some (.lst [.str "wide", .bl true]) := upd_same
          generalize upd H28 a1 (HO.lst [V.str "wide", .bl true]) = H29 at sa1 ea1 ⊢
          refine ⟨(by show 1 ≤ sizeLine; decide), fun a2 na2 => ?_⟩
          have sa2 := same_upd (o := HO.lst [V.ref a1]) na2
          refine ⟨a2, 2, [.ref a1], rfl, rfl, upd_same, by decide, by decide, (by show 2 ≤ sizeLine; decide), fun a3 na3 => ?_⟩
          have sa3 := same_upd (o := HO.lst (List.replicate (2 : Int).toNat [V.ref a1]).flatten) na3
          have ea3 : upd (upd H29 a2 (HO.lst [V.ref a1])) a3 (HO.lst (List.replicate (2 : Int).toNat [V.ref a1]).flatten) a3 = some (.lst [.ref a1, .ref a1]) := upd_same
          have sa := sa1.trans (sa2.trans sa3)
          have ea1' := sa3 _ _ (sa2 _ _ ea1)
          generalize upd (upd H29 a2 (HO.lst [V.ref a1])) a3 (HO.lst (List.replicate (2 : Int).toNat [V.ref a1]).flatten) = H30 at sa ea3 ea1' ⊢
          refine ⟨wideD, wideD, wide_dt (sa _ _ g11) (sa _ _ g1) (sa _ _ g2), wide_dt ea3 ea1' ea1', rfl, rfl, (by decide), ?_⟩
          rw [SeqAt.eqv_refl_plain _ (show wideD.plain = true from rfl)]
          refine ⟨_, rfl, ?_⟩
          refine iteF ?_
          exact ⟨_, _, _, rfl, hA9.same sa, hPr9.same sa, sa _ _ eL9⟩
        · have hA7 := hA6.same s18
          have hPr7 := hPr6.same s18
          have eL7 := s18 _ _ eL6
          obtain ⟨y, ey, ine⟩ : ∃ y, (fs.drop 1).getLast? = some y ∧ fs.drop 1 ≠ [] := by
            rcases runs_fine wf2 tok.fine z139 (by omega) with h | ⟨fs', h, hh⟩
            · rw [hrun] at h; cases h
            · rw [hrun] at h
              cases h
              have l1 := hh.1
              rw [wf2.len] at l1
              have ne : fs.drop 1 ≠ [] := fun z => by
                have := congrArg List.length z
                rw [List.length_drop, l1] at this
                have this : ss2.length + 1 - 1 = 0 := this
                omega
              cases h : (fs.drop 1).getLast? with
              | none => exact absurd (List.getLast?_eq_none_iff.mp h) ne
              | some y => exact ⟨y, rfl, ne⟩
          refine ⟨_, rfl, rfl, _, rfl, ?_⟩
          rw [decide_eq_false (fun z => by cases z)]
          refine iteF ?_
          refine pall_ev rfl rfl hPr7 steps12 (.int z) (fun z' e h0 => ?_) (fun e => absurd z0 (of_decide_eq_false e))
          cases e
          refine ⟨zbig, some fs, hrun, fun pa H19 s19 epa => ?_⟩
          refine ⟨_, rfl, pf, _, rfl, .inl ⟨SqL.of (s19 _ _ epf), fun tq ntq => ?_⟩⟩
          refine ne_ints (same_upd ntq _ _ epa) upd_same ?_
          refine ⟨_, rfl, ?_⟩
          refine iteF ?_
          have s20 := s19.trans (same_upd (o := HO.tup ((fs.drop 1).map V.int)) ntq)
          generalize upd H19 tq (HO.tup ((fs.drop 1).map V.int)) = H20 at s20 ⊢
          refine pat_ev rfl rfl (hPr7.same s20) steps12 (.int z) (fun z' e h0 => ?_) (fun e => absurd z0 (of_decide_eq_false e))
          cases e
          refine ⟨zbig, some fs, hrun, y, ey, fun H21 s21 => ?_⟩
          have s1821 := s20.trans s21
          refine ⟨_, rfl, 1, rfl, pf, _, -1, V.int y, rfl, rfl, SqL.of (s1821 _ _ epf), (by rw [atI_last (fun z => ine (List.map_eq_nil_iff.mp z)), List.getLast?_map, ey]; rfl), ?_⟩
          refine ⟨rfl, _, rfl, ?_⟩
          rw [decide_eq_true (show V.int y = V.int y from rfl)]
          refine iteF ?_
          exact ⟨_, _, _, rfl, hA7.same s1821, hPr7.same s1821, s1821 _ _ eL7⟩
      · rintro σ H17 ⟨v9, v10, v11, rfl, hA6, hPr6, eL6⟩
        clear eL6 eL hA5 hPr5 hxs
        -- what is no input
        refine ⟨_, rfl, 1, rfl, (by show 1 ≤ sizeLine; decide), fun o1 no1 => ?_⟩
        have so1 := same_upd (o := HO.tup [V.int 1]) no1
        have eo1 : upd H17 o1 (HO.tup [V.int 1]) o1 = some (.tup [.int 1]) := upd_same
        generalize upd H17 o1 (HO.tup [V.int 1]) = H18 at so1 eo1 ⊢
        refine ⟨(by show 1 ≤ sizeLine; decide), fun o2 no2 => ?_⟩
        have so2 := same_upd (o := HO.lst [V.int 1]) no2
        have eo2 : upd H18 o2 (HO.lst [V.int 1]) o2 = some (.lst [.int 1]) := upd_same
        have eo1 := so2 _ _ eo1
        generalize upd H18 o2 (HO.lst [V.int 1]) = H19 at so2 eo2 eo1 ⊢
        refine ⟨(by show 6 ≤ sizeLine; decide), fun o3 no3 => ?_⟩
        have so3 := same_upd (o := HO.lst [V.int (-1), .non, .str "1", .bl true, .ref o1, .ref o2]) no3
        have eo3 : upd H19 o3 (HO.lst [V.int (-1), .non, .str "1", .bl true, .ref o1, .ref o2]) o3 = some (.lst [V.int (-1), .non, .str "1", .bl true, .ref o1, .ref o2]) := upd_same
        have eo1 := so3 _ _ eo1
        have eo2 := so3 _ _ eo2
        generalize upd H19 o3 (HO.lst [V.int (-1), .non, .str "1", .bl true, .ref o1, .ref o2]) = H20 at so3 eo3 eo2 eo1 ⊢
        have so := so1.trans (so2.trans so3)
        have hA7 := hA6.same so
        have hPr7 := hPr6.same so
        refine ⟨p, lc, o3, _, _, rfl, hA7.pe, by decide, eo3, hA7.pe.neLst eo3, (by show 0 < 6; decide), (by show 6 < 1000000; decide), fun v H21 hv p21 k21 => ?_⟩
        obtain ⟨d, od⟩ : ∃ d, OddX K H21 v d := by
          have f1 := k21 _ _ (hA7.pe.neTup eo1) eo1
          have f2 := k21 _ _ (hA7.pe.neLst eo2) eo2
          simp only [List.mem_cons, List.not_mem_nil, or_false] at hv
          rcases hv with rfl | rfl | rfl | rfl | rfl | rfl
          · exact ⟨.int (-1), .int _, by decide, rfl, by simp [PyData.depth]⟩
          · exact ⟨.none, .non, rfl, rfl, by simp [PyData.depth]⟩
          · exact ⟨.str "1", .str _, rfl, rfl, by simp [PyData.depth]⟩
          · exact ⟨.bool true, .bl _, rfl, rfl, by simp [PyData.depth]⟩
          · exact ⟨.tuple [.int 1], .tup (SqT.of f1) (.cons (.int 1) .nil), rfl, by simp [PyData.plain, PyData.plainAll], by simp [PyData.depth, PyData.depthAll]⟩
          · exact ⟨.list [.int 1], .lst (SqL.of f2) (.cons (.int 1) .nil), rfl, by simp [PyData.plain, PyData.plainAll], by simp [PyData.depth, PyData.depthAll]⟩
        have hA8 := hA7.kp tdp k21 p21
        have hPr8 := hPr7.kp hA7.pe k21
        clear hA7 hPr7 eo1 eo2 eo3 hA6 hPr6
        have notin : ∀ z, d = .int z → 0 ≤ z → False := fun z e h0 => by
          have := od.no
          rw [e] at this
          exact absurd h0 (of_decide_eq_false this)
        refine ⟨hA8.ta, fun H22 e22 T22 H23 k23 s23 => ?_⟩
        refine pat_ev rfl rfl ((hPr8.n e22).same s23) steps12 ((od.dt.n e22).mono s23) (fun z e h0 => (notin z e h0).elim) (fun _ dd H24 s24 n24 e24 => .inr (.inl ⟨rfl, dd, "x", v, rfl, e24, fun tq H25 s25 etq => ?_⟩))
        refine ⟨_, rfl, (by show 3 ≤ sizeLine; decide), fun l3 nl3 => ?_⟩
        have s26 := same_upd (o := HO.lst [V.str "x", v, .bl true]) nl3
        have s236 := s23.trans (s24.trans (s25.trans s26))
        have e26 := e22.trans (ExtN.of s236)
        refine odd_eqv (od.n e26) (s26 _ _ etq) upd_same ?_
        have hA9 := hA8.n e26 (tabs_ext T22 s236)
        have hPr9 := hPr8.n e26
        have od9 := od.n e26
        generalize upd H25 l3 (HO.lst [V.str "x", v, .bl true]) = H26 at hA9 hPr9 od9 ⊢
        clear hA8 hPr8 od e26 s236 s26
        refine ⟨_, rfl, ?_⟩
        refine iteF ?_
        refine ⟨hA9.ta, fun H27 e27 T27 H28 k28 s28 => ?_⟩
        refine pall_ev rfl rfl ((hPr9.n e27).same s28) steps12 ((od9.dt.n e27).mono s28) (fun z e h0 => (notin z e h0).elim) (fun _ dd H29 s29 n29 e29 => .inr (.inl ⟨rfl, dd, "x", v, rfl, e29, fun tq H30 s30 etq => ?_⟩))
        refine ⟨_, rfl, (by show 3 ≤ sizeLine; decide), fun l4 nl4 => ?_⟩
        have s31 := same_upd (o := HO.lst [V.str "x", v, .bl true]) nl4
        have s281 := s28.trans (s29.trans (s30.trans s31))
        have e31 := e27.trans (ExtN.of s281)
        refine odd_eqv (od9.n e31) (s31 _ _ etq) upd_same ?_
        have hB := hA9.n e31 (tabs_ext T27 s281)
        generalize upd H30 l4 (HO.lst [V.str "x", v, .bl true]) = H31 at hB ⊢
        clear hA9 hPr9 od9 e31 s281 s31 notin
        refine ⟨_, rfl, ?_⟩
        refine iteF ?_
        -- a wrong line
        refine ⟨_, rfl, p, lc, _, 3, rfl, hB.pe, by decide, by decide, by decide, fun pad H32 pad0 pad1 p32 k32 => ?_⟩
        have hB1 := hB.kp tdp k32 p32
        obtain ⟨pd, rfl⟩ : ∃ n : Nat, pad = n := ⟨pad.toNat, by omega⟩
        have pd3 : pd < 3 := by omega
        refine ⟨_, rfl, (by show 3 ≤ sizeLine; decide), fun o4 no4 => ?_⟩
        have so4 := same_upd (o := HO.lst [V.str "", .str "\n", .str " \n"]) no4
        have eo4 : upd H32 o4 (HO.lst [V.str "", .str "\n", .str " \n"]) o4 = some (.lst [V.str "", .str "\n", .str " \n"]) := upd_same
        have hB2 := hB1.same so4
        refine ⟨p, lc, o4, _, _, rfl, hB2.pe, by decide, eo4, hB2.pe.neLst eo4, (by show 0 < 3; decide), (by show 3 < 1000000; decide), fun fv H33 hfv p33 k33 => ?_⟩
        rw [lit_fronts] at hfv
        obtain ⟨fr, hfr, rfl⟩ := List.mem_map.mp hfv
        have hB3 := hB2.kp tdp k33 p33
        have fr2 := fronts_fit fr hfr
        refine ⟨_, _, rfl, ?_⟩
        refine ⟨_, rfl, p, lc, _, rfl, hB3.pe, by decide, fun r w H34 hw er p34' p34 => ?_⟩
        have hB4 := hB3.kp tdp p34' p34
        have w100 : w.1.length ≤ 100 := of_decide_eq_true (List.all_eq_true.mp ways_fit.1 w hw)
        refine ⟨r, _, rfl, SqT.of er, rfl, _, _, rfl, _, _, rfl, rfl, ?_⟩
        rw [lit_tabL]
        have pl : (sp pd).length ≤ 2 := by rw [sp_len]; omega
        refine ⟨_, rfl, _, _, rfl, rfl, tx_catB (by show 12 + _ ≤ _; omega), ?_⟩
        rw [tx_app, lit_lineA]
        refine ⟨_, _, rfl, rfl, tx_catB (by rw [List.length_append]; show 12 + _ + 6 ≤ _; omega), ?_⟩
        rw [tx_app]
        refine ⟨_, rfl, 32, (pd : Int), by rw [lit_sp], rfl, by omega, by omega, ?_⟩
        rw [show List.replicate ((pd : Nat) : Int).toNat 32 = sp pd from rfl]
        refine ⟨_, _, rfl, rfl, tx_catB (by simp only [List.length_append]; show 12 + _ + 6 + _ ≤ _; omega), ?_⟩
        rw [tx_app]
        refine ⟨_, rfl, _, _, rfl, rfl, tx_catB (by simp only [List.length_append]; show 12 + _ + 6 + _ + _ ≤ _; omega), ?_⟩
        rw [tx_app, lit_endL]
        refine ⟨_, _, rfl, rfl, tx_catB (by simp only [List.length_append]; show 12 + _ + 6 + _ + _ + 3 ≤ _; omega), ?_⟩
        rw [tx_app, show tabL ++ fr ++ lineA ++ sp pd ++ w.1 ++ endL = badL fr pd w.1 by unfold badL; simp only [List.append_assoc]]
        obtain ⟨hbad, hb2⟩ := bad_lineT hw hfr pd3
        have bl : (badL fr pd w.1).length + 2 ≤ LL := by
          unfold badL LL
          simp only [List.length_append]
          show 12 + (_ + (6 + (_ + (_ + 3)))) + 2 ≤ _
          omega
        generalize badL fr pd w.1 = bt at hbad hb2 bl ⊢
        refine ⟨hB4.ta, fun H35 e35 T35 H36 k36 s36 => ?_⟩
        refine ⟨_, rfl, pr_wrong bl hbad (why_line fun tq H37 s37 etq => ?_)⟩
        refine ⟨_, rfl, ⟨_, rfl⟩, _, _, rfl, rfl, (by decide +kernel), (by rw [tx_len, sizeLine_eq]; unfold LL at bl; omega), fun q1 nq1 => ?_⟩
        rw [split_nl]
        have s38 := same_upd (o := HO.lst (((spn [] bt).map Tx).map V.str)) nq1
        have eq1 : upd H37 q1 (HO.lst (((spn [] bt).map Tx).map V.str)) q1 = some (.lst (((spn [] bt).map Tx).map V.str)) := upd_same
        generalize upd H37 q1 (HO.lst (((spn [] bt).map Tx).map V.str)) = H38 at s38 eq1 ⊢
        refine ⟨q1, _, rfl, .inl (SqL.of eq1), _, _, rfl, rfl, _, rfl, _, rfl, _, _, rfl, rfl, (by show 3 ≤ sizeLine; decide), fun l5 nl5 => ?_⟩
        have n1 : (((((spn [] bt).map Tx).map V.str).length : Nat) : Int) - 2 = (((spn [] bt).length - 2 : Nat) : Int) := by rw [List.length_map, List.length_map]; omega
        have n2 : ((w.2 : Int) + (pd : Int)) = ((w.2 + pd : Nat) : Int) := by omega
        have s39 := same_upd (o := HO.lst [V.int ((((((spn [] bt).map Tx).map V.str).length : Nat) : Int) - 2), V.int ((w.2 : Int) + (pd : Int)), V.bl true]) nl5
        have sA := s36.trans (s37.trans (s38.trans s39))
        have eA := e35.trans (ExtN.of sA)
        have hB5 := hB4.n eA (tabs_ext T35 sA)
        refine lst3_eqv (s39 _ _ (s38 _ _ etq)) (by rw [← n1, ← n2]; exact upd_same) ?_
        show (fun H' => _) (upd H38 l5 (HO.lst [V.int ((((((spn [] bt).map Tx).map V.str).length : Nat) : Int) - 2), V.int ((w.2 : Int) + (pd : Int)), V.bl true]))
        generalize upd H38 l5 (HO.lst [V.int ((((((spn [] bt).map Tx).map V.str).length : Nat) : Int) - 2), V.int ((w.2 : Int) + (pd : Int)), V.bl true]) = H39 at hB5 ⊢
        clear sA eA s39 s38 s37 s36 eq1 etq n1 n2 T35 e35 hB4 hB3 hB2 hB1 hB hbad hb2 bl
        refine ⟨_, rfl, ?_⟩
        refine iteF ?_
        -- a wrong table
        refine ⟨_, rfl, p, lc, _, rfl, hB5.pe, by decide, fun r w H40 hw er k40 p40 => ?_⟩
        have hC1 := hB5.kp tdp k40 p40
        have w100 : w.1.length ≤ 100 := of_decide_eq_true (List.all_eq_true.mp ways_fit.2 w hw)
        refine ⟨r, _, rfl, SqT.of er, rfl, _, _, rfl, _, _, rfl, rfl, ?_⟩
        refine ⟨_, rfl, _, _, rfl, rfl, tx_catB (by show 12 + _ ≤ _; omega), ?_⟩
        rw [tx_app]
        refine ⟨_, rfl, 32, (pd : Int), by rw [lit_sp], rfl, by omega, by omega, ?_⟩
        rw [show List.replicate ((pd : Nat) : Int).toNat 32 = sp pd from rfl]
        refine ⟨_, _, rfl, rfl, tx_catB (by simp only [List.length_append]; show 12 + _ + _ ≤ _; omega), ?_⟩
        rw [tx_app]
        refine ⟨_, rfl, _, _, rfl, rfl, tx_catB (by simp only [List.length_append]; show 12 + _ + _ + _ ≤ _; omega), ?_⟩
        rw [tx_app]
        refine ⟨_, _, rfl, rfl, tx_catB (by simp only [List.length_append]; show 12 + _ + _ + _ + 3 ≤ _; omega), ?_⟩
        rw [tx_app, show tabL ++ fr ++ sp pd ++ w.1 ++ endL = badT fr pd w.1 by unfold badT; simp only [List.append_assoc]]
        obtain ⟨hbad, hb2⟩ := bad_tableT hw hfr pd3
        have bl : (badT fr pd w.1).length + 2 ≤ LL := by
          unfold badT LL
          simp only [List.length_append]
          show 12 + (_ + (_ + (_ + 3))) + 2 ≤ _
          omega
        generalize badT fr pd w.1 = bt at hbad hb2 bl ⊢
        refine ⟨hC1.ta, fun H35 e35 T35 H36 k36 s36 => ?_⟩
        refine ⟨_, rfl, pr_wrong bl hbad (why_line fun tq H37 s37 etq => ?_)⟩
        refine ⟨_, rfl, ⟨_, rfl⟩, _, _, rfl, rfl, (by decide +kernel), (by rw [tx_len, sizeLine_eq]; unfold LL at bl; omega), fun q1 nq1 => ?_⟩
        rw [split_nl]
        have s38 := same_upd (o := HO.lst (((spn [] bt).map Tx).map V.str)) nq1
        have eq1 : upd H37 q1 (HO.lst (((spn [] bt).map Tx).map V.str)) q1 = some (.lst (((spn [] bt).map Tx).map V.str)) := upd_same
        generalize upd H37 q1 (HO.lst (((spn [] bt).map Tx).map V.str)) = H38 at s38 eq1 ⊢
        refine ⟨q1, _, rfl, .inl (SqL.of eq1), _, _, rfl, rfl, _, rfl, _, rfl, _, _, rfl, rfl, (by show 3 ≤ sizeLine; decide), fun l5 nl5 => ?_⟩
        have n1 : (((((spn [] bt).map Tx).map V.str).length : Nat) : Int) - 2 = (((spn [] bt).length - 2 : Nat) : Int) := by rw [List.length_map, List.length_map]; omega
        have n2 : ((w.2 : Int) + (pd : Int)) = ((w.2 + pd : Nat) : Int) := by omega
        have s39 := same_upd (o := HO.lst [V.int ((((((spn [] bt).map Tx).map V.str).length : Nat) : Int) - 2), V.int ((w.2 : Int) + (pd : Int)), V.bl true]) nl5
        have sA := s36.trans (s37.trans (s38.trans s39))
        have eA := e35.trans (ExtN.of sA)
        have hC2 := hC1.n eA (tabs_ext T35 sA)
        refine lst3_eqv (s39 _ _ (s38 _ _ etq)) (by rw [← n1, ← n2]; exact upd_same) ?_
        show (fun H' => _) (upd H38 l5 (HO.lst [V.int ((((((spn [] bt).map Tx).map V.str).length : Nat) : Int) - 2), V.int ((w.2 : Int) + (pd : Int)), V.bl true]))
        generalize upd H38 l5 (HO.lst [V.int ((((((spn [] bt).map Tx).map V.str).length : Nat) : Int) - 2), V.int ((w.2 : Int) + (pd : Int)), V.bl true]) = H41 at hC2 ⊢
        clear sA eA s39 s38 s37 s36 eq1 etq n1 n2 T35 e35 hC1 hbad hb2 bl hB5
        refine ⟨_, rfl, ?_⟩
        refine iteF ?_
        -- a bare text
        refine ⟨_, rfl, ?_⟩
        refine lst_pairs (ps := [(tC (.str ""), .str "", .int 1), (tC (.str "\n"), .str "\n", .int 2), (tC (.str "table t 3"), .str "table t 3", .int 2), (tC (.str "table t 3\n \n"), .str "table t 3\n \n", .int 3), (tC (.str "  "), .str "  ", .int 2)]) (by decide) (by intro x hx; simp only [List.mem_cons, List.not_mem_nil, or_false] at hx; rcases hx with rfl | rfl | rfl | rfl | rfl <;> exact fun _ _ _ q => q) fun o5 rs5 H42 s42 no5 eo5 a5 => ?_
        have hC3 := hC2.same s42
        have l5 := a5.len
        refine ⟨p, lc, o5, _, _, rfl, hC3.pe, by decide, eo5, hC3.pe.neLst eo5, (by rw [List.length_map, l5]; decide), (by rw [List.length_map, l5]; decide), fun bv H43 hbv p43 k43 => ?_⟩
        obtain ⟨rb, hrb, rfl⟩ := List.mem_map.mp hbv
        obtain ⟨xb, hxb, erb⟩ := a5.mem hrb
        have erb : H42 rb = some (.tup [xb.1, xb.2]) := erb
        have hxb : xb ∈ [(V.str ("" : Str), V.int 1), (V.str ("\n" : Str), V.int 2), (V.str ("table t 3" : Str), V.int 2), (V.str ("table t 3\n \n" : Str), V.int 3), (V.str ("  " : Str), V.int 2)] := hxb
        rw [lit_bares] at hxb
        obtain ⟨b, hb, rfl⟩ := List.mem_map.mp hxb
        have hC4 := hC3.kp tdp k43 p43
        have erb43 : H43 rb = some (.tup [.str (Tx b.1), .int (b.2 : Int)]) := k43 _ _ (hC3.pe.neTup erb) erb
        have hbb := errOf_ok (of_decide_eq_true (List.all_eq_true.mp bad_bares b hb))
        have bll := bares_len b hb
        refine ⟨hC4.ta, fun H44 e44 T44 H45 k45 s45 => ?_⟩
        have erb45 := s45 _ _ (e44 _ _ erb43 (fun _ z => by cases z))
        refine ⟨_, rfl, rb, _, 0, V.str (Tx b.1), rfl, rfl, SqT.of erb45, rfl, pr_wrong (by unfold LL; omega) hbb (why_line fun tq H46 s46 etq => ?_)⟩
        refine ⟨_, rfl, rb, _, 1, V.int (b.2 : Int), rfl, rfl, SqT.of (s46 _ _ erb45), rfl, (by show 3 ≤ sizeLine; decide), fun l6 nl6 => ?_⟩
        have s47 := same_upd (o := HO.lst [V.int (b.2 : Int), V.int 1, V.bl true]) nl6
        have sB := s45.trans (s46.trans s47)
        have hC5 := hC4.n (e44.trans (ExtN.of sB)) (tabs_ext T44 sB)
        refine lst3_eqv (s47 _ _ etq) upd_same ?_
        show (fun H' => _) (upd H46 l6 (HO.lst [V.int (b.2 : Int), V.int 1, V.bl true]))
        generalize upd H46 l6 (HO.lst [V.int (b.2 : Int), V.int 1, V.bl true]) = H48 at hC5 ⊢
        refine ⟨_, rfl, ?_⟩
        refine iteF ?_
        -- no text
        refine ⟨_, rfl, (by show 1 ≤ sizeLine; decide), fun o6 no6 => ?_⟩
        have so6 := same_upd (o := HO.lst [V.str "y = x"]) no6
        have eo6 : upd H48 o6 (HO.lst [V.str "y = x"]) o6 = some (.lst [.str "y = x"]) := upd_same
        generalize upd H48 o6 (HO.lst [V.str "y = x"]) = H49 at so6 eo6 ⊢
        refine ⟨(by show 3 ≤ sizeLine; decide), fun o7 no7 => ?_⟩
        have so7 := same_upd (o := HO.lst [V.non, .int 5, .ref o6]) no7
        have eo7 : upd H49 o7 (HO.lst [V.non, .int 5, .ref o6]) o7 = some (.lst [V.non, .int 5, .ref o6]) := upd_same
        have eo6 := so7 _ _ eo6
        generalize upd H49 o7 (HO.lst [V.non, .int 5, .ref o6]) = H50 at so7 eo7 eo6 ⊢
        have hC6 := hC5.same (so6.trans so7)
        refine ⟨p, lc, o7, _, _, rfl, hC6.pe, by decide, eo7, hC6.pe.neLst eo7, (by show 0 < 3; decide), (by show 3 < 1000000; decide), fun v6 H51 hv6 p51 k51 => ?_⟩
        obtain ⟨d6, hd6, hs6⟩ : ∃ d, Dt K H51 v6 d ∧ strD d = false := by
          have f1 := k51 _ _ (hC6.pe.neLst eo6) eo6
          simp only [List.mem_cons, List.not_mem_nil, or_false] at hv6
          rcases hv6 with rfl | rfl | rfl
          · exact ⟨.none, .non, rfl⟩
          · exact ⟨.int 5, .int 5, rfl⟩
          · exact ⟨.list [.str "y = x"], .lst (SqL.of f1) (.cons (.str _) .nil), rfl⟩
        have hC7 := hC6.kp tdp k51 p51
        refine ⟨hC7.ta, fun H52 e52 T52 H53 k53 s53 => ?_⟩
        refine ⟨_, rfl, pr_made ((hd6.n e52).mono s53) (fun t' e => by rw [e] at hs6; cases hs6) (fun _ => why_line fun tq H54 s54 etq => ?_)⟩
        refine ⟨(by show 3 ≤ sizeLine; decide), fun l7 nl7 => ?_⟩
        have s55 := same_upd (o := HO.lst [V.int 0, V.int 0, V.bl true]) nl7
        refine lst3_eq (s55 _ _ etq) upd_same ?_
        have T55 := tabs_ext T52 (s53.trans (s54.trans s55))
        generalize upd H54 l7 (HO.lst [V.int 0, V.int 0, V.bl true]) = H55 at T55 ⊢
        refine ⟨_, rfl, iteT ?_⟩
        exact ⟨rfl, tabs_F T55, fun H' _ => kend H'⟩
end

end Vf

set_option maxRecDepth 100000
set_option maxHeartbeats 8000000
namespace Vf
open PySem PySem.Spec PyProof.Rows L2
/-! ### facts for the end -/
section
variable {P : Program} {w : World} {K : PySem.W.Frag} {mg : Str → Option Value} {base : Heap}
theorem hotBadLine {f C : Addr} {fd : FuncData} (F : Fun K "__init__" "BadLine.__init__" (inClass (topS 3) 0) f fd) (T : OexC K C) (n1 : PySem.W.findIn K (.ref C) "line" = some none) (n2 : PySem.W.findIn K (.ref C) "column" = some none) :
    L2H.FnH P w K mg base CX0 1 f fd ["self", "line", "column"] (spIni C ["line", "column"]) := by
  refine okH F scBadLine (fun vs H Q E h => ?_) (fun cdv A outer s H vs Q E p h1 hr h => ?_)
  · obtain ⟨a, xs, rfl, hl, _⟩ := h
    rw [List.length_cons, hl]
    all_goals rfl
  · obtain ⟨a, xs, rfl, hl, ha, k⟩ := h
    match xs, hl with
    | [v1, v2], _ =>
    refine ⟨_, (pss_cons (ps_ost (pv 0) (pv 1)) (pss_one (ps_ost (pv 0) (pv 2)))), ?_⟩
    refine ⟨_, rfl, _, rfl, a, C, rfl, T, n1, .inl ⟨ha, fun d nd ne => ?_⟩⟩
    have e1 : (upd (upd H d (exd d [("line", v1)])) a (exo a C (some d))) a = some (exo a C (some d)) := upd_same
    have e2 : (upd (upd H d (exd d [("line", v1)])) a (exo a C (some d))) d = some (exd d [("line", v1)]) := by rw [upd_ne ne]; exact upd_same
    have e3 := keep2 (H := H) (a := a) (d := d) (o := exd d [("line", v1)]) (u := exo a C (some d)) nd
    generalize upd (upd H d (exd d [("line", v1)])) a (exo a C (some d)) = H1 at e1 e2 e3
    refine ⟨_, rfl, _, rfl, a, C, rfl, T, n2, .inr ⟨d, _, e1, e2, (by show 1 ≤ 900; decide), ?_⟩⟩
    exact k d _ nd ne (by rw [upd_ne ne.symm]; exact e1) upd_same (keep3 nd e3)
end
def ecB (K : PySem.W.Frag) (C : Addr) : Bool :=
  decide (PySem.W.findIn K (.ref C) "__getattribute__" = some (some (.builtin "BaseException.__getattribute__"))) && (decide (PySem.W.findIn K (.ref C) "__getattr__" = some none) && (decide (PySem.W.subIn K (.ref C) (.type "BaseException") = some true) && (PySem.W.hasDictIn K C &&
  (decide (PySem.W.findIn K (.ref C) "__class__" = some (some (.builtin "object.__class__"))) && (decide (PySem.W.specialIn K (.builtin "object.__class__") "__get__" = some (some (.builtin "getset_descriptor.__get__"))) && (decide (PySem.W.takesIn K (.builtin "object.__class__") = some true) && decide (PySem.W.mroIn K C (.type "object") = some true)))))))
theorem ecB_ok {K : PySem.W.Frag} {C : Addr} (h : ecB K C = true) : ExcC K C := by
  obtain ⟨h1, h⟩ := Bool.and_eq_true_iff.mp h
  obtain ⟨h2, h⟩ := Bool.and_eq_true_iff.mp h
  obtain ⟨h3, h⟩ := Bool.and_eq_true_iff.mp h
  obtain ⟨h4, h⟩ := Bool.and_eq_true_iff.mp h
  obtain ⟨h5, h⟩ := Bool.and_eq_true_iff.mp h
  obtain ⟨h6, h⟩ := Bool.and_eq_true_iff.mp h
  obtain ⟨h7, h8⟩ := Bool.and_eq_true_iff.mp h
  exact ⟨of_decide_eq_true h1, of_decide_eq_true h2, of_decide_eq_true h3, h4, of_decide_eq_true h5, of_decide_eq_true h6, of_decide_eq_true h7, of_decide_eq_true h8⟩
def insB (K : PySem.W.Frag) (C : Addr) (fs : List Str) : Bool :=
  PySem.W.plainGet K C Str.empty && (PySem.W.hasDictIn K C && (PySem.W.plainOver K C && (decide (PySem.W.findIn K (.ref C) "__setattr__" = some (some (.builtin "object.__setattr__"))) && (fs.all (fun f => decide (PySem.W.findIn K (.ref C) f = some none)) && (PySem.W.makesIn K C && PySem.W.keepIn K (.ref C))))))
theorem insC {K : PySem.W.Frag} {C : Addr} {fs : List Str} (h : insB K C fs = true) : Cls K C ∧ (∀ f ∈ fs, NoAttr K C f) ∧ PySem.W.makesIn K C = true ∧ PySem.W.keepIn K (.ref C) = true := by
  obtain ⟨h1, h⟩ := Bool.and_eq_true_iff.mp h
  obtain ⟨h2, h⟩ := Bool.and_eq_true_iff.mp h
  obtain ⟨h3, h⟩ := Bool.and_eq_true_iff.mp h
  obtain ⟨h4, h⟩ := Bool.and_eq_true_iff.mp h
  obtain ⟨h5, h⟩ := Bool.and_eq_true_iff.mp h
  obtain ⟨h6, h7⟩ := Bool.and_eq_true_iff.mp h
  exact ⟨⟨h1, h2, h3, of_decide_eq_true h4⟩, fun f hf => (of_decide_eq_true (List.all_eq_true.mp h5 f hf) : PySem.W.findIn K (.ref C) f = some none), h6, h7⟩
theorem fn_of_ty {K : PySem.W.Frag} {f : Addr} (h : PySem.W.typeIn K (.ref f) = some (.type "function")) : PySem.W.isFn K (.ref f) = true := by
  unfold PySem.W.isFn
  rw [h]
  decide +kernel
def twB (K : PySem.W.Frag) (C : Addr) : Bool :=
  PySem.W.excIn K C [.type "ValueError", .type "Exception", .type "BaseException", .type "object"] "ValueError.__new__" && (decide (PySem.W.subIn K (.ref C) (.type "BaseException") = some true) && (decide (PySem.W.typeIn K (.ref C) = some (.type "type")) && PySem.W.keepIn K (.ref C)))
theorem twB_ok {K : PySem.W.Frag} {mg : Str → Option Value} {C : Addr} (m : mg "TooWide" = some (.ref C)) (h : twB K C = true) : Tw K mg C := by
  obtain ⟨h1, h⟩ := Bool.and_eq_true_iff.mp h
  obtain ⟨h2, h⟩ := Bool.and_eq_true_iff.mp h
  obtain ⟨h3, h4⟩ := Bool.and_eq_true_iff.mp h
  exact ⟨m, h1, of_decide_eq_true h2, of_decide_eq_true h3, h4⟩

end Vf

set_option maxRecDepth 100000
set_option maxHeartbeats 4000000
/-! the end of a law's row, from its promise where no guard stands; what the top has written, read off -/
namespace Vf
open PySem PySem.Spec PyProof.Rows L2
/-- what is known of the law's def at the heap behind the top -/
def LawG (l : PySem.W.OpenLaw) (w : World) (K : PySem.W.Frag) (C : CXT) (k n : Nat) (x : Str) (mg : Str → Option Value) (fa : Addr) (h : Heap) : Prop :=
  ∃ (fd : FuncData) (cs : List (Addr × Addr)) (sp : Sp), (∀ p ∈ cs, h.get? p.2 = some { cls := .none, data := .fields #[] }) ∧ (∀ p ∈ cs, K.lookup p.2 = none) ∧ (∀ p ∈ cs, PySem.W.CodeHd h p.1 p.2) ∧
    (∀ (s : Shared) (u : Value), BindsTo s fd ⟨[u], []⟩ [(x, u)]) ∧
    (∀ (H : Hp) (a : Addr) (ns : List Int), ns.length ≤ n → (∀ z ∈ ns, Builtin.Int.intBits z ≤ 1048576) → (∀ p ∈ cs, H p.2 = some (.tbl #[])) → SqL K H a (ns.map V.int) → sp [.ref a] H (fun v _ => v = .bl true) E0) ∧
    ∀ b : Heap, K.In b → b.Ns mainGlobals mg → M1 b → (∀ p ∈ cs, LamX.TabB b mg p.1 p.2) → FnG l.prog w K mg b C k fa fd [x] sp
theorem walkG {l : PySem.W.OpenLaw} {n k : Nat} {q : Program} {loose : List Str} {XP : (Str → Option Value) → Heap → Prop} {YP : World → Heap → Prop} {d : DefRec} {K : Params → PySem.W.Frag} {C : World → CXT} {x : Str}
    (hn : l.most = some n) (hn2 : n ≤ sizeLine) (hdf : d.params.defaults = []) (hr : Room k callerA) (hi : importsNone q = true) (hY : ∀ (w : World) (h : Heap), YP w h → (K w.params).In h)
    (F : ∀ (w : World) (mg : Str → Option Value) (fa : Addr) (h : Heap), YP w h → (K w.params).In h → h.Ns mainGlobals mg → mg d.name = some (.ref fa) → LawG l w (K w.params) (C w) k n x mg fa h)
    (hE : ∀ (w : World) (H : Hp) (s : Shared) (e : Value) (s' : Shared), C w [] H s E0 e s' → False) : PySem.W.WalkO q loose XP YP l.row.toRowW d [] (fun f vs => PySem.call f vs) := by
  refine Att.attach_callB hn hdf fun w s0 s1 mg mb fa o pm cd doc a vs ns G Y ho hd hcd hmg hobj hints hlen hbits hg => ?_
  have X := hY w _ Y
  obtain ⟨fd, cs, sp, hT, nT, hC, bind, hsp, hF⟩ := F w mg fa _ Y X G.T.g hmg
  have m1 : M1 s1.heap := by
    obtain ⟨mm, ⟨o, es, ep, e, dt, _⟩, _⟩ := (G.T.seer hi).mods
    exact ⟨o, es, ep, e, dt⟩
  exact law_enter X G.T.g G.T.b G.T.builtins G.T.nolimit hg hT nT hC G.T.bmain m1 hobj hints (Nat.le_trans hlen hn2) hr hF bind (fun H h1 h2 => hsp H a ns hlen hbits h1 h2) fun H e s' => hE w H s1 e s'

/-- a def of the text, as the written part tells it -/
structure Wr (K : PySem.W.Frag) (qual x : Str) (st : Stmt) (f : Addr) : Prop where
  ex : ∃ fd, Fun K x qual st f fd
theorem wr_mk {K : PySem.W.Frag} {x qual : Str} {st : Stmt} {f : Addr} {oc : Value} {od an : Option Addr} {osl : Array (Option Value)} {kV doc pm cdv ct : Value} (l : K.lookup f = some ⟨oc, od, .func (PySem.W.fnOf x qual (defArgs st) (defBody st) (defScope st) .none kV doc pm an cdv ct), osl⟩)
    (c : PySem.W.codeIn K cdv qual = true) (k : PySem.W.keepIn K (.ref f) = true) : Wr K qual x st f := ⟨_, fun_mk l c k⟩
/-- an exception class, its facts in one look -/
def oexB (K : PySem.W.Frag) (C : Addr) : Bool :=
  decide (PySem.W.findIn K (.ref C) "__setattr__" = some (some (.builtin "object.__setattr__"))) && (decide (PySem.W.subIn K (.ref C) (.type "BaseException") = some true) &&
    (decide (PySem.W.typeIn K (.ref C) = some (.type "type")) && PySem.W.keepIn K (.ref C)))
theorem oexB_ok {K : PySem.W.Frag} {C : Addr} (h : oexB K C = true) (c : ∃ nm q N bs bm sn sub ab col dd k0 k1 k2 k3 k5, K.lookup C = some (excClassObj nm q C N bs bm true sn sub ab col dd k0 k1 k2 k3 k5 "ValueError.__new__") ∧ PySem.HandSPX.refsVE bm = true) : OexC K C := by
  obtain ⟨h1, h⟩ := Bool.and_eq_true_iff.mp h
  obtain ⟨h2, h⟩ := Bool.and_eq_true_iff.mp h
  obtain ⟨h3, h4⟩ := Bool.and_eq_true_iff.mp h
  exact ⟨c, of_decide_eq_true h1, of_decide_eq_true h2, of_decide_eq_true h3, h4⟩
end Vf

set_option maxRecDepth 100000
set_option maxHeartbeats 4000000
/-! the end of a row whose law makes lambdas: the tables of defs -/
namespace Vf
open PySem PySem.Spec PyProof.Rows L2
/-- the tables of the text's own defs are empty, their code objects as they come -/
def TabsG (q : Program) (K : PySem.W.Frag) (mg : Str → Option Value) (h : Heap) : Prop :=
  ∀ (x : Str) (f c Pt : Addr) (o : Obj) (fd : FuncData) (e : Value) (dd : Option Addr) (vs : Array Value) (sl : Array (Option Value)), ((recsOf q).any fun e => e.name == x) = true → mg x = some (.ref f) → K.lookup f = some o → o.data = .func fd → fd.code = .ref c →
    K.lookup c = some ⟨e, dd, .fields vs, sl⟩ → vs[11]? = some (.ref Pt) → PySem.W.CodeHd h c Pt ∧ h.get? Pt = some { cls := .none, data := .fields #[] }
theorem walkT {l : PySem.W.OpenLaw} {n k : Nat} {q : Program} {loose : List Str} {XP : (Str → Option Value) → Heap → Prop} {YP : World → Heap → Prop} {d : DefRec} {K : Params → PySem.W.Frag} {C : World → CXT} {x : Str}
    (hn : l.most = some n) (hn2 : n ≤ sizeLine) (hdf : d.params.defaults = []) (hr : Room k callerA) (hi : importsNone q = true) (hY : ∀ (w : World) (h : Heap), YP w h → (K w.params).In h)
    (F : ∀ (w : World) (mg : Str → Option Value) (fa : Addr) (h : Heap), YP w h → (K w.params).In h → h.Ns mainGlobals mg → mg d.name = some (.ref fa) → TabsG q (K w.params) mg h → LawG l w (K w.params) (C w) k n x mg fa h)
    (hE : ∀ (w : World) (H : Hp) (s : Shared) (e : Value) (s' : Shared), C w [] H s E0 e s' → False) : PySem.W.WalkO q loose XP YP l.row.toRowW d [] (fun f vs => PySem.call f vs) := by
  refine Att.attach_callB hn hdf fun w s0 s1 mg mb fa o pm cd doc a vs ns G Y ho hd hcd hmg hobj hints hlen hbits hg => ?_
  have X := hY w _ Y
  have tabs : TabsG q (K w.params) mg s1.heap := fun x f c Pt o1 fd1 e dd vs1 sl hrec k0 k1 k2 k3 k4 k5 => by
    obtain ⟨dL, hm, hn1⟩ := List.any_eq_true.mp hrec
    have hn2 : dL.name = x := beq_iff_eq.mp hn1
    obtain ⟨a', o', fd', c', P', h1, h2, h3, h4, h5, h6⟩ := G.T.tab dL hm
    rw [hn2, k0] at h1
    cases h1
    have g1 := X _ _ k1
    rw [g1] at h2
    cases h2
    rw [k2] at h3
    cases h3
    rw [k3] at h4
    cases h4
    have h6' := h6
    obtain ⟨⟨oc, vc, e1, _, e3, e4⟩, hP⟩ := h6'
    have g2 := X _ _ k4
    rw [g2] at e1
    cases e1
    cases e3
    rw [k5] at e4
    cases e4
    exact ⟨PySem.W.CodeHd.of h5 h6, hP⟩
  obtain ⟨fd, cs, sp, hT, nT, hC, bind, hsp, hF⟩ := F w mg fa _ Y X G.T.g hmg tabs
  have m1 : M1 s1.heap := by
    obtain ⟨mm, ⟨o, es, ep, e, dt, _⟩, _⟩ := (G.T.seer hi).mods
    exact ⟨o, es, ep, e, dt⟩
  exact law_enter X G.T.g G.T.b G.T.builtins G.T.nolimit hg hT nT hC G.T.bmain m1 hobj hints (Nat.le_trans hlen hn2) hr hF bind (fun H h1 h2 => hsp H a ns hlen hbits h1 h2) fun H e s' => hE w H s1 e s'
end Vf

set_option maxRecDepth 100000
set_option maxHeartbeats 8000000
namespace Vf
open PySem PySem.Spec PyProof.Rows L2
/-! ### what the top has written -/
theorem all_mk {l : PySem.W.OpenLaw} {w : World} {K : PySem.W.Frag} {h : Heap} {mg : Str → Option Value} {fa : Addr} {q : Program}
    {C0 C1 C2 i0 i1 i2 f0 f1 f2 f3 f4 f5 f6 f7 f8 f9 f10 f11 f12 f13 f14 f15 f16 f17 f18 f19 f20 f21 f22 f23 f24 f25 f26 f27 f28 f29 f30 Cp p0 p1 p2 p3 p4 p5 p6 Cq q0 q1 q2 cL Pt cF Pf : Addr}
    {CW CE NO : Addr} {fN : Option Addr} {tNa tNb : Tok} {nN : Nat} {sN : Array (Option Value)}
    {eL : Value} {dL : Option Addr} {vL : Array Value} {sL : Array (Option Value)} {eF : Value} {dF : Option Addr} {vF : Array Value} {sF : Array (Option Value)}
    {ocf0 kVf0 dcf0 pmf0 cdf0 ctf0 : Value} {odf0 anf0 : Option Addr} {slf0 : Array (Option Value)}
    {ocf1 kVf1 dcf1 pmf1 cdf1 ctf1 : Value} {odf1 anf1 : Option Addr} {slf1 : Array (Option Value)}
    {ocf2 kVf2 dcf2 pmf2 cdf2 ctf2 : Value} {odf2 anf2 : Option Addr} {slf2 : Array (Option Value)}
    {ocf3 kVf3 dcf3 pmf3 cdf3 ctf3 : Value} {odf3 anf3 : Option Addr} {slf3 : Array (Option Value)}
    {ocf4 kVf4 dcf4 pmf4 cdf4 ctf4 : Value} {odf4 anf4 : Option Addr} {slf4 : Array (Option Value)}
    {ocf5 kVf5 dcf5 pmf5 cdf5 ctf5 : Value} {odf5 anf5 : Option Addr} {slf5 : Array (Option Value)}
    {ocf6 kVf6 dcf6 pmf6 cdf6 ctf6 : Value} {odf6 anf6 : Option Addr} {slf6 : Array (Option Value)}
    {ocf7 kVf7 dcf7 pmf7 cdf7 ctf7 : Value} {odf7 anf7 : Option Addr} {slf7 : Array (Option Value)}
    {ocf8 kVf8 dcf8 pmf8 cdf8 ctf8 : Value} {odf8 anf8 : Option Addr} {slf8 : Array (Option Value)}
    {ocf9 kVf9 dcf9 pmf9 cdf9 ctf9 : Value} {odf9 anf9 : Option Addr} {slf9 : Array (Option Value)}
    {ocf10 kVf10 dcf10 pmf10 cdf10 ctf10 : Value} {odf10 anf10 : Option Addr} {slf10 : Array (Option Value)}
    {ocf11 kVf11 dcf11 pmf11 cdf11 ctf11 : Value} {odf11 anf11 : Option Addr} {slf11 : Array (Option Value)}
    {ocf12 kVf12 dcf12 pmf12 cdf12 ctf12 : Value} {odf12 anf12 : Option Addr} {slf12 : Array (Option Value)}
    {ocf13 kVf13 dcf13 pmf13 cdf13 ctf13 : Value} {odf13 anf13 : Option Addr} {slf13 : Array (Option Value)}
    {ocf14 kVf14 dcf14 pmf14 cdf14 ctf14 : Value} {odf14 anf14 : Option Addr} {slf14 : Array (Option Value)}
    {ocf15 kVf15 dcf15 pmf15 cdf15 ctf15 : Value} {odf15 anf15 : Option Addr} {slf15 : Array (Option Value)}
    {ocf16 kVf16 dcf16 pmf16 cdf16 ctf16 : Value} {odf16 anf16 : Option Addr} {slf16 : Array (Option Value)}
    {ocf17 kVf17 dcf17 pmf17 cdf17 ctf17 : Value} {odf17 anf17 : Option Addr} {slf17 : Array (Option Value)}
    {ocf18 kVf18 dcf18 pmf18 cdf18 ctf18 : Value} {odf18 anf18 : Option Addr} {slf18 : Array (Option Value)}
    {ocf19 kVf19 dcf19 pmf19 cdf19 ctf19 : Value} {odf19 anf19 : Option Addr} {slf19 : Array (Option Value)}
    {ocf20 kVf20 dcf20 pmf20 cdf20 ctf20 : Value} {odf20 anf20 : Option Addr} {slf20 : Array (Option Value)}
    {ocf21 kVf21 dcf21 pmf21 cdf21 ctf21 : Value} {odf21 anf21 : Option Addr} {slf21 : Array (Option Value)}
    {ocf22 kVf22 dcf22 pmf22 cdf22 ctf22 : Value} {odf22 anf22 : Option Addr} {slf22 : Array (Option Value)}
    {ocf23 kVf23 dcf23 pmf23 cdf23 ctf23 : Value} {odf23 anf23 : Option Addr} {slf23 : Array (Option Value)}
    {ocf24 kVf24 dcf24 pmf24 cdf24 ctf24 : Value} {odf24 anf24 : Option Addr} {slf24 : Array (Option Value)}
    {ocf25 kVf25 dcf25 pmf25 cdf25 ctf25 : Value} {odf25 anf25 : Option Addr} {slf25 : Array (Option Value)}
    {ocf26 kVf26 dcf26 pmf26 cdf26 ctf26 : Value} {odf26 anf26 : Option Addr} {slf26 : Array (Option Value)}
    {ocf27 kVf27 dcf27 pmf27 ctf27 : Value} {odf27 anf27 : Option Addr} {slf27 : Array (Option Value)}
    {ocf28 kVf28 dcf28 pmf28 cdf28 ctf28 : Value} {odf28 anf28 : Option Addr} {slf28 : Array (Option Value)}
    {ocf29 kVf29 dcf29 pmf29 cdf29 ctf29 : Value} {odf29 anf29 : Option Addr} {slf29 : Array (Option Value)}
    {ocf30 kVf30 dcf30 pmf30 ctf30 : Value} {odf30 anf30 : Option Addr} {slf30 : Array (Option Value)}
    {tkDIGITS : Tok}
    {tkLETTERS : Tok}
    {tkNAME_SIGNS : Tok}
    {tkMOST_SIGNS : Tok}
    {tkMOST_DIGITS : Tok}
    {tkMOST_COUNT : Tok}
    {oci0 kVi0 dci0 pmi0 cdi0 cti0 : Value} {odi0 ani0 : Option Addr} {sli0 : Array (Option Value)}
    {nm0 qn0 : Str} {N0 : Addr} {bs0 bm0 sub0 : List Value} {sn0 : List Str} {ab0 : Bool} {col0 : Option Bool} {dd0 : Option Addr} {ka0 kb0 kc0 kd0 ke0 : Option Value}
    {oci1 kVi1 dci1 pmi1 cdi1 cti1 : Value} {odi1 ani1 : Option Addr} {sli1 : Array (Option Value)}
    {nm1 qn1 : Str} {N1 : Addr} {bs1 bm1 sub1 : List Value} {sn1 : List Str} {ab1 : Bool} {col1 : Option Bool} {dd1 : Option Addr} {ka1 kb1 kc1 kd1 ke1 : Option Value}
    {oci2 kVi2 dci2 pmi2 cdi2 cti2 : Value} {odi2 ani2 : Option Addr} {sli2 : Array (Option Value)}
    {nm2 qn2 : Str} {N2 : Addr} {bs2 bm2 sub2 : List Value} {sn2 : List Str} {ab2 : Bool} {col2 : Option Bool} {dd2 : Option Addr} {ka2 kb2 kc2 kd2 ke2 : Option Value}
    {ocp0 kVp0 dcp0 pmp0 cdp0 ctp0 : Value} {odp0 anp0 : Option Addr} {slp0 : Array (Option Value)}
    {ocp1 kVp1 dcp1 pmp1 cdp1 ctp1 : Value} {odp1 anp1 : Option Addr} {slp1 : Array (Option Value)}
    {ocp2 kVp2 dcp2 pmp2 cdp2 ctp2 : Value} {odp2 anp2 : Option Addr} {slp2 : Array (Option Value)}
    {ocp3 kVp3 dcp3 pmp3 cdp3 ctp3 : Value} {odp3 anp3 : Option Addr} {slp3 : Array (Option Value)}
    {ocp4 kVp4 dcp4 pmp4 cdp4 ctp4 : Value} {odp4 anp4 : Option Addr} {slp4 : Array (Option Value)}
    {ocp5 kVp5 dcp5 pmp5 cdp5 ctp5 : Value} {odp5 anp5 : Option Addr} {slp5 : Array (Option Value)}
    {ocp6 kVp6 dcp6 pmp6 cdp6 ctp6 : Value} {odp6 anp6 : Option Addr} {slp6 : Array (Option Value)}
    {ocq0 kVq0 dcq0 pmq0 cdq0 ctq0 : Value} {odq0 anq0 : Option Addr} {slq0 : Array (Option Value)}
    {ocq1 kVq1 dcq1 pmq1 cdq1 ctq1 : Value} {odq1 anq1 : Option Addr} {slq1 : Array (Option Value)}
    {ocq2 kVq2 dcq2 pmq2 cdq2 ctq2 : Value} {odq2 anq2 : Option Addr} {slq2 : Array (Option Value)}
    (X : K.In h) (G : h.Ns mainGlobals mg) (hfa : mg "law" = some (.ref fa)) (TB : TabsG q K mg h)
    (a0 : PySem.W.nsIn K mainGlobals "_law_pen" = some (some (.ref f0)))
    (l0 : K.lookup f0 = some ⟨ocf0, odf0, .func (PySem.W.fnOf "_law_pen" "_law_pen" (defArgs sPen) (defBody sPen) (defScope sPen) .none kVf0 dcf0 pmf0 anf0 cdf0 ctf0), slf0⟩)
    (c0 : PySem.W.codeIn K cdf0 "_law_pen" = true)
    (k0 : PySem.W.keepIn K (.ref f0) = true)
    (a1 : PySem.W.nsIn K mainGlobals "_law_draw" = some (some (.ref f1)))
    (l1 : K.lookup f1 = some ⟨ocf1, odf1, .func (PySem.W.fnOf "_law_draw" "_law_draw" (defArgs sDraw) (defBody sDraw) (defScope sDraw) .none kVf1 dcf1 pmf1 anf1 cdf1 ctf1), slf1⟩)
    (c1 : PySem.W.codeIn K cdf1 "_law_draw" = true)
    (k1 : PySem.W.keepIn K (.ref f1) = true)
    (a2 : PySem.W.nsIn K mainGlobals "_law_pick" = some (some (.ref f2)))
    (l2 : K.lookup f2 = some ⟨ocf2, odf2, .func (PySem.W.fnOf "_law_pick" "_law_pick" (defArgs sPick) (defBody sPick) (defScope sPick) .none kVf2 dcf2 pmf2 anf2 cdf2 ctf2), slf2⟩)
    (c2 : PySem.W.codeIn K cdf2 "_law_pick" = true)
    (k2 : PySem.W.keepIn K (.ref f2) = true)
    (a3 : PySem.W.nsIn K mainGlobals "is_whole" = some (some (.ref f3)))
    (l3 : K.lookup f3 = some ⟨ocf3, odf3, .func (PySem.W.fnOf "is_whole" "is_whole" (defArgs sIsWhole) (defBody sIsWhole) (defScope sIsWhole) .none kVf3 dcf3 pmf3 anf3 cdf3 ctf3), slf3⟩)
    (c3 : PySem.W.codeIn K cdf3 "is_whole" = true)
    (k3 : PySem.W.keepIn K (.ref f3) = true)
    (a4 : PySem.W.nsIn K mainGlobals "is_whole_from" = some (some (.ref f4)))
    (l4 : K.lookup f4 = some ⟨ocf4, odf4, .func (PySem.W.fnOf "is_whole_from" "is_whole_from" (defArgs sFrom) (defBody sFrom) (defScope sFrom) .none kVf4 dcf4 pmf4 anf4 cdf4 ctf4), slf4⟩)
    (c4 : PySem.W.codeIn K cdf4 "is_whole_from" = true)
    (k4 : PySem.W.keepIn K (.ref f4) = true)
    (a5 : PySem.W.nsIn K mainGlobals "behind_spaces" = some (some (.ref f5)))
    (l5 : K.lookup f5 = some ⟨ocf5, odf5, .func (PySem.W.fnOf "behind_spaces" "behind_spaces" (defArgs sBeh) (defBody sBeh) (defScope sBeh) .none kVf5 dcf5 pmf5 anf5 cdf5 ctf5), slf5⟩)
    (c5 : PySem.W.codeIn K cdf5 "behind_spaces" = true)
    (k5 : PySem.W.keepIn K (.ref f5) = true)
    (a6 : PySem.W.nsIn K mainGlobals "is_digit" = some (some (.ref f6)))
    (l6 : K.lookup f6 = some ⟨ocf6, odf6, .func (PySem.W.fnOf "is_digit" "is_digit" (defArgs sIsD) (defBody sIsD) (defScope sIsD) .none kVf6 dcf6 pmf6 anf6 cdf6 ctf6), slf6⟩)
    (c6 : PySem.W.codeIn K cdf6 "is_digit" = true)
    (k6 : PySem.W.keepIn K (.ref f6) = true)
    (a7 : PySem.W.nsIn K mainGlobals "run_end" = some (some (.ref f7)))
    (l7 : K.lookup f7 = some ⟨ocf7, odf7, .func (PySem.W.fnOf "run_end" "run_end" (defArgs sRunE) (defBody sRunE) (defScope sRunE) .none kVf7 dcf7 pmf7 anf7 cdf7 ctf7), slf7⟩)
    (c7 : PySem.W.codeIn K cdf7 "run_end" = true)
    (k7 : PySem.W.keepIn K (.ref f7) = true)
    (a8 : PySem.W.nsIn K mainGlobals "is_word" = some (some (.ref f8)))
    (l8 : K.lookup f8 = some ⟨ocf8, odf8, .func (PySem.W.fnOf "is_word" "is_word" (defArgs sIsW) (defBody sIsW) (defScope sIsW) .none kVf8 dcf8 pmf8 anf8 cdf8 ctf8), slf8⟩)
    (c8 : PySem.W.codeIn K cdf8 "is_word" = true)
    (k8 : PySem.W.keepIn K (.ref f8) = true)
    (a9 : PySem.W.nsIn K mainGlobals "read_name" = some (some (.ref f9)))
    (l9 : K.lookup f9 = some ⟨ocf9, odf9, .func (PySem.W.fnOf "read_name" "read_name" (defArgs sRName) (defBody sRName) (defScope sRName) .none kVf9 dcf9 pmf9 anf9 cdf9 ctf9), slf9⟩)
    (c9 : PySem.W.codeIn K cdf9 "read_name" = true)
    (k9 : PySem.W.keepIn K (.ref f9) = true)
    (a10 : PySem.W.nsIn K mainGlobals "need_space" = some (some (.ref f10)))
    (l10 : K.lookup f10 = some ⟨ocf10, odf10, .func (PySem.W.fnOf "need_space" "need_space" (defArgs sNSp) (defBody sNSp) (defScope sNSp) .none kVf10 dcf10 pmf10 anf10 cdf10 ctf10), slf10⟩)
    (c10 : PySem.W.codeIn K cdf10 "need_space" = true)
    (k10 : PySem.W.keepIn K (.ref f10) = true)
    (a11 : PySem.W.nsIn K mainGlobals "need_sign" = some (some (.ref f11)))
    (l11 : K.lookup f11 = some ⟨ocf11, odf11, .func (PySem.W.fnOf "need_sign" "need_sign" (defArgs sNSg) (defBody sNSg) (defScope sNSg) .none kVf11 dcf11 pmf11 anf11 cdf11 ctf11), slf11⟩)
    (c11 : PySem.W.codeIn K cdf11 "need_sign" = true)
    (k11 : PySem.W.keepIn K (.ref f11) = true)
    (a12 : PySem.W.nsIn K mainGlobals "read_digits" = some (some (.ref f12)))
    (l12 : K.lookup f12 = some ⟨ocf12, odf12, .func (PySem.W.fnOf "read_digits" "read_digits" (defArgs sRDg) (defBody sRDg) (defScope sRDg) .none kVf12 dcf12 pmf12 anf12 cdf12 ctf12), slf12⟩)
    (c12 : PySem.W.codeIn K cdf12 "read_digits" = true)
    (k12 : PySem.W.keepIn K (.ref f12) = true)
    (a13 : PySem.W.nsIn K mainGlobals "read_number" = some (some (.ref f13)))
    (l13 : K.lookup f13 = some ⟨ocf13, odf13, .func (PySem.W.fnOf "read_number" "read_number" (defArgs sRNum) (defBody sRNum) (defScope sRNum) .none kVf13 dcf13 pmf13 anf13 cdf13 ctf13), slf13⟩)
    (c13 : PySem.W.codeIn K cdf13 "read_number" = true)
    (k13 : PySem.W.keepIn K (.ref f13) = true)
    (a14 : PySem.W.nsIn K mainGlobals "read_count" = some (some (.ref f14)))
    (l14 : K.lookup f14 = some ⟨ocf14, odf14, .func (PySem.W.fnOf "read_count" "read_count" (defArgs sRCnt) (defBody sRCnt) (defScope sRCnt) .none kVf14 dcf14 pmf14 anf14 cdf14 ctf14), slf14⟩)
    (c14 : PySem.W.codeIn K cdf14 "read_count" = true)
    (k14 : PySem.W.keepIn K (.ref f14) = true)
    (a15 : PySem.W.nsIn K mainGlobals "lines_of" = some (some (.ref f15)))
    (l15 : K.lookup f15 = some ⟨ocf15, odf15, .func (PySem.W.fnOf "lines_of" "lines_of" (defArgs sLines) (defBody sLines) (defScope sLines) .none kVf15 dcf15 pmf15 anf15 cdf15 ctf15), slf15⟩)
    (c15 : PySem.W.codeIn K cdf15 "lines_of" = true)
    (k15 : PySem.W.keepIn K (.ref f15) = true)
    (a16 : PySem.W.nsIn K mainGlobals "parsed_program" = some (some (.ref f16)))
    (l16 : K.lookup f16 = some ⟨ocf16, odf16, .func (PySem.W.fnOf "parsed_program" "parsed_program" (defArgs sPars) (defBody sPars) (defScope sPars) .none kVf16 dcf16 pmf16 anf16 cdf16 ctf16), slf16⟩)
    (c16 : PySem.W.codeIn K cdf16 "parsed_program" = true)
    (k16 : PySem.W.keepIn K (.ref f16) = true)
    (a17 : PySem.W.nsIn K mainGlobals "need_input" = some (some (.ref f17)))
    (l17 : K.lookup f17 = some ⟨ocf17, odf17, .func (PySem.W.fnOf "need_input" "need_input" (defArgs sNI) (defBody sNI) (defScope sNI) .none kVf17 dcf17 pmf17 anf17 cdf17 ctf17), slf17⟩)
    (c17 : PySem.W.codeIn K cdf17 "need_input" = true)
    (k17 : PySem.W.keepIn K (.ref f17) = true)
    (a18 : PySem.W.nsIn K mainGlobals "shifted" = some (some (.ref f18)))
    (l18 : K.lookup f18 = some ⟨ocf18, odf18, .func (PySem.W.fnOf "shifted" "shifted" (defArgs sShf) (defBody sShf) (defScope sShf) .none kVf18 dcf18 pmf18 anf18 cdf18 ctf18), slf18⟩)
    (c18 : PySem.W.codeIn K cdf18 "shifted" = true)
    (k18 : PySem.W.keepIn K (.ref f18) = true)
    (a19 : PySem.W.nsIn K mainGlobals "joined_numbers" = some (some (.ref f19)))
    (l19 : K.lookup f19 = some ⟨ocf19, odf19, .func (PySem.W.fnOf "joined_numbers" "joined_numbers" (defArgs sJnd) (defBody sJnd) (defScope sJnd) .none kVf19 dcf19 pmf19 anf19 cdf19 ctf19), slf19⟩)
    (c19 : PySem.W.codeIn K cdf19 "joined_numbers" = true)
    (k19 : PySem.W.keepIn K (.ref f19) = true)
    (a20 : PySem.W.nsIn K mainGlobals "_law_operand" = some (some (.ref f20)))
    (l20 : K.lookup f20 = some ⟨ocf20, odf20, .func (PySem.W.fnOf "_law_operand" "_law_operand" (defArgs sOper) (defBody sOper) (defScope sOper) .none kVf20 dcf20 pmf20 anf20 cdf20 ctf20), slf20⟩)
    (c20 : PySem.W.codeIn K cdf20 "_law_operand" = true)
    (k20 : PySem.W.keepIn K (.ref f20) = true)
    (a21 : PySem.W.nsIn K mainGlobals "_law_program" = some (some (.ref f21)))
    (l21 : K.lookup f21 = some ⟨ocf21, odf21, .func (PySem.W.fnOf "_law_program" "_law_program" (defArgs sProgL) (defBody sProgL) (defScope sProgL) .none kVf21 dcf21 pmf21 anf21 cdf21 ctf21), slf21⟩)
    (c21 : PySem.W.codeIn K cdf21 "_law_program" = true)
    (k21 : PySem.W.keepIn K (.ref f21) = true)
    (a22 : PySem.W.nsIn K mainGlobals "_law_value_text" = some (some (.ref f22)))
    (l22 : K.lookup f22 = some ⟨ocf22, odf22, .func (PySem.W.fnOf "_law_value_text" "_law_value_text" (defArgs sVT) (defBody sVT) (defScope sVT) .none kVf22 dcf22 pmf22 anf22 cdf22 ctf22), slf22⟩)
    (c22 : PySem.W.codeIn K cdf22 "_law_value_text" = true)
    (k22 : PySem.W.keepIn K (.ref f22) = true)
    (a23 : PySem.W.nsIn K mainGlobals "_law_loose_text" = some (some (.ref f23)))
    (l23 : K.lookup f23 = some ⟨ocf23, odf23, .func (PySem.W.fnOf "_law_loose_text" "_law_loose_text" (defArgs sLoose) (defBody sLoose) (defScope sLoose) .none kVf23 dcf23 pmf23 anf23 cdf23 ctf23), slf23⟩)
    (c23 : PySem.W.codeIn K cdf23 "_law_loose_text" = true)
    (k23 : PySem.W.keepIn K (.ref f23) = true)
    (a24 : PySem.W.nsIn K mainGlobals "_law_run" = some (some (.ref f24)))
    (l24 : K.lookup f24 = some ⟨ocf24, odf24, .func (PySem.W.fnOf "_law_run" "_law_run" (defArgs sRun) (defBody sRun) (defScope sRun) .none kVf24 dcf24 pmf24 anf24 cdf24 ctf24), slf24⟩)
    (c24 : PySem.W.codeIn K cdf24 "_law_run" = true)
    (k24 : PySem.W.keepIn K (.ref f24) = true)
    (a25 : PySem.W.nsIn K mainGlobals "_law_why" = some (some (.ref f25)))
    (l25 : K.lookup f25 = some ⟨ocf25, odf25, .func (PySem.W.fnOf "_law_why" "_law_why" (defArgs sWhy) (defBody sWhy) (defScope sWhy) .none kVf25 dcf25 pmf25 anf25 cdf25 ctf25), slf25⟩)
    (c25 : PySem.W.codeIn K cdf25 "_law_why" = true)
    (k25 : PySem.W.keepIn K (.ref f25) = true)
    (a26 : PySem.W.nsIn K mainGlobals "_law_with_tables" = some (some (.ref f26)))
    (l26 : K.lookup f26 = some ⟨ocf26, odf26, .func (PySem.W.fnOf "_law_with_tables" "_law_with_tables" (defArgs sWith) (defBody sWith) (defScope sWith) .none kVf26 dcf26 pmf26 anf26 cdf26 ctf26), slf26⟩)
    (c26 : PySem.W.codeIn K cdf26 "_law_with_tables" = true)
    (k26 : PySem.W.keepIn K (.ref f26) = true)
    (a27 : PySem.W.nsIn K mainGlobals "_law_fixed_right" = some (some (.ref f27)))
    (l27 : K.lookup f27 = some ⟨ocf27, odf27, .func (PySem.W.fnOf "_law_fixed_right" "_law_fixed_right" (defArgs sFix) (defBody sFix) (defScope sFix) .none kVf27 dcf27 pmf27 anf27 (.ref cF) ctf27), slf27⟩)
    (c27 : PySem.W.codeIn K (.ref cF) "_law_fixed_right" = true)
    (k27 : PySem.W.keepIn K (.ref f27) = true)
    (a28 : PySem.W.nsIn K mainGlobals "_law_wrong_line" = some (some (.ref f28)))
    (l28 : K.lookup f28 = some ⟨ocf28, odf28, .func (PySem.W.fnOf "_law_wrong_line" "_law_wrong_line" (defArgs sWLn) (defBody sWLn) (defScope sWLn) .none kVf28 dcf28 pmf28 anf28 cdf28 ctf28), slf28⟩)
    (c28 : PySem.W.codeIn K cdf28 "_law_wrong_line" = true)
    (k28 : PySem.W.keepIn K (.ref f28) = true)
    (a29 : PySem.W.nsIn K mainGlobals "_law_wrong_table" = some (some (.ref f29)))
    (l29 : K.lookup f29 = some ⟨ocf29, odf29, .func (PySem.W.fnOf "_law_wrong_table" "_law_wrong_table" (defArgs sWTb) (defBody sWTb) (defScope sWTb) .none kVf29 dcf29 pmf29 anf29 cdf29 ctf29), slf29⟩)
    (c29 : PySem.W.codeIn K cdf29 "_law_wrong_table" = true)
    (k29 : PySem.W.keepIn K (.ref f29) = true)
    (a30 : PySem.W.nsIn K mainGlobals "law" = some (some (.ref f30)))
    (l30 : K.lookup f30 = some ⟨ocf30, odf30, .func (PySem.W.fnOf "law" "law" (defArgs sLaw) (defBody sLaw) (defScope sLaw) .none kVf30 dcf30 pmf30 anf30 (.ref cL) ctf30), slf30⟩)
    (c30 : PySem.W.codeIn K (.ref cL) "law" = true)
    (k30 : PySem.W.keepIn K (.ref f30) = true)
    (tlL : K.lookup cL = some ⟨eL, dL, .fields vL, sL⟩)
    (tvL : vL[11]? = some (.ref Pt))
    (tnL : K.lookup Pt = none)
    (trL : ((recsOf q).any fun e => e.name == Str.ofString "law") = true)
    (tlF : K.lookup cF = some ⟨eF, dF, .fields vF, sF⟩)
    (tvF : vF[11]? = some (.ref Pf))
    (tnF : K.lookup Pf = none)
    (trF : ((recsOf q).any fun e => e.name == Str.ofString "_law_fixed_right") = true)
    (hPf : Pf ≠ Pt)
    (acDIGITS : PySem.W.nsIn K mainGlobals "DIGITS" = some (some (.str sDIGITS tkDIGITS)))
    (acLETTERS : PySem.W.nsIn K mainGlobals "LETTERS" = some (some (.str sLETTERS tkLETTERS)))
    (acNAME_SIGNS : PySem.W.nsIn K mainGlobals "NAME_SIGNS" = some (some (.str sNAME_SIGNS tkNAME_SIGNS)))
    (acMOST_SIGNS : PySem.W.nsIn K mainGlobals "MOST_SIGNS" = some (some (.int 8 tkMOST_SIGNS)))
    (acMOST_DIGITS : PySem.W.nsIn K mainGlobals "MOST_DIGITS" = some (some (.int 30 tkMOST_DIGITS)))
    (acMOST_COUNT : PySem.W.nsIn K mainGlobals "MOST_COUNT" = some (some (.int 60 tkMOST_COUNT)))
    (m0 : PySem.W.nsIn K mainGlobals "BadText" = some (some (.ref C0)))
    (ei0 : PySem.W.findIn K (.ref C0) "__init__" = some (some (.ref i0)))
    (ti0 : PySem.W.typeIn K (.ref i0) = some (.type "function"))
    (li0 : K.lookup i0 = some ⟨oci0, odi0, .func (PySem.W.fnOf "__init__" "BadText.__init__" (defArgs (inClass (topS 2) 0)) (defBody (inClass (topS 2) 0)) (defScope (inClass (topS 2) 0)) .none kVi0 dci0 pmi0 ani0 cdi0 cti0), sli0⟩)
    (ci0 : PySem.W.codeIn K cdi0 "BadText.__init__" = true)
    (ki0 : PySem.W.keepIn K (.ref i0) = true)
    (lc0 : K.lookup C0 = some (excClassObj nm0 qn0 C0 N0 bs0 bm0 true sn0 sub0 ab0 col0 dd0 ka0 kb0 kc0 kd0 ke0 "ValueError.__new__"))
    (lb0 : PySem.HandSPX.refsVE bm0 = true)
    (big0 : (oexB K C0 && decide (PySem.W.findIn K (.ref C0) "column" = some none)) = true)
    (m1 : PySem.W.nsIn K mainGlobals "BadLine" = some (some (.ref C1)))
    (ei1 : PySem.W.findIn K (.ref C1) "__init__" = some (some (.ref i1)))
    (ti1 : PySem.W.typeIn K (.ref i1) = some (.type "function"))
    (li1 : K.lookup i1 = some ⟨oci1, odi1, .func (PySem.W.fnOf "__init__" "BadLine.__init__" (defArgs (inClass (topS 3) 0)) (defBody (inClass (topS 3) 0)) (defScope (inClass (topS 3) 0)) .none kVi1 dci1 pmi1 ani1 cdi1 cti1), sli1⟩)
    (ci1 : PySem.W.codeIn K cdi1 "BadLine.__init__" = true)
    (ki1 : PySem.W.keepIn K (.ref i1) = true)
    (lc1 : K.lookup C1 = some (excClassObj nm1 qn1 C1 N1 bs1 bm1 true sn1 sub1 ab1 col1 dd1 ka1 kb1 kc1 kd1 ke1 "ValueError.__new__"))
    (lb1 : PySem.HandSPX.refsVE bm1 = true)
    (big1 : (oexB K C1 && decide (PySem.W.findIn K (.ref C1) "line" = some none) && decide (PySem.W.findIn K (.ref C1) "column" = some none)) = true)
    (m2 : PySem.W.nsIn K mainGlobals "BadNumber" = some (some (.ref C2)))
    (ei2 : PySem.W.findIn K (.ref C2) "__init__" = some (some (.ref i2)))
    (ti2 : PySem.W.typeIn K (.ref i2) = some (.type "function"))
    (li2 : K.lookup i2 = some ⟨oci2, odi2, .func (PySem.W.fnOf "__init__" "BadNumber.__init__" (defArgs (inClass (topS 4) 0)) (defBody (inClass (topS 4) 0)) (defScope (inClass (topS 4) 0)) .none kVi2 dci2 pmi2 ani2 cdi2 cti2), sli2⟩)
    (ci2 : PySem.W.codeIn K cdi2 "BadNumber.__init__" = true)
    (ki2 : PySem.W.keepIn K (.ref i2) = true)
    (lc2 : K.lookup C2 = some (excClassObj nm2 qn2 C2 N2 bs2 bm2 true sn2 sub2 ab2 col2 dd2 ka2 kb2 kc2 kd2 ke2 "ValueError.__new__"))
    (lb2 : PySem.HandSPX.refsVE bm2 = true)
    (big2 : (oexB K C2 && decide (PySem.W.findIn K (.ref C2) "what" = some none) && decide (PySem.W.findIn K (.ref C2) "number" = some none)) = true)
    (mcp : PySem.W.nsIn K mainGlobals "Parsed" = some (some (.ref Cp)))
    (ep0 : PySem.W.findIn K (.ref Cp) "__init__" = some (some (.ref p0)))
    (tp0 : PySem.W.typeIn K (.ref p0) = some (.type "function"))
    (lp0 : K.lookup p0 = some ⟨ocp0, odp0, .func (PySem.W.fnOf "__init__" "Parsed.__init__" (defArgs (inClass (topS 21) 0)) (defBody (inClass (topS 21) 0)) (defScope (inClass (topS 21) 0)) .none kVp0 dcp0 pmp0 anp0 cdp0 ctp0), slp0⟩)
    (cp0 : PySem.W.codeIn K cdp0 "Parsed.__init__" = true)
    (kp0 : PySem.W.keepIn K (.ref p0) = true)
    (ep1 : PySem.W.findIn K (.ref Cp) "put_line" = some (some (.ref p1)))
    (tp1 : PySem.W.typeIn K (.ref p1) = some (.type "function"))
    (lp1 : K.lookup p1 = some ⟨ocp1, odp1, .func (PySem.W.fnOf "put_line" "Parsed.put_line" (defArgs (inClass (topS 21) 1)) (defBody (inClass (topS 21) 1)) (defScope (inClass (topS 21) 1)) .none kVp1 dcp1 pmp1 anp1 cdp1 ctp1), slp1⟩)
    (cp1 : PySem.W.codeIn K cdp1 "Parsed.put_line" = true)
    (kp1 : PySem.W.keepIn K (.ref p1) = true)
    (ep2 : PySem.W.findIn K (.ref Cp) "new_name" = some (some (.ref p2)))
    (tp2 : PySem.W.typeIn K (.ref p2) = some (.type "function"))
    (lp2 : K.lookup p2 = some ⟨ocp2, odp2, .func (PySem.W.fnOf "new_name" "Parsed.new_name" (defArgs (inClass (topS 21) 2)) (defBody (inClass (topS 21) 2)) (defScope (inClass (topS 21) 2)) .none kVp2 dcp2 pmp2 anp2 cdp2 ctp2), slp2⟩)
    (cp2 : PySem.W.codeIn K cdp2 "Parsed.new_name" = true)
    (kp2 : PySem.W.keepIn K (.ref p2) = true)
    (ep3 : PySem.W.findIn K (.ref Cp) "put_table" = some (some (.ref p3)))
    (tp3 : PySem.W.typeIn K (.ref p3) = some (.type "function"))
    (lp3 : K.lookup p3 = some ⟨ocp3, odp3, .func (PySem.W.fnOf "put_table" "Parsed.put_table" (defArgs (inClass (topS 21) 3)) (defBody (inClass (topS 21) 3)) (defScope (inClass (topS 21) 3)) .none kVp3 dcp3 pmp3 anp3 cdp3 ctp3), slp3⟩)
    (cp3 : PySem.W.codeIn K cdp3 "Parsed.put_table" = true)
    (kp3 : PySem.W.keepIn K (.ref p3) = true)
    (ep4 : PySem.W.findIn K (.ref Cp) "put_step" = some (some (.ref p4)))
    (tp4 : PySem.W.typeIn K (.ref p4) = some (.type "function"))
    (lp4 : K.lookup p4 = some ⟨ocp4, odp4, .func (PySem.W.fnOf "put_step" "Parsed.put_step" (defArgs (inClass (topS 21) 4)) (defBody (inClass (topS 21) 4)) (defScope (inClass (topS 21) 4)) .none kVp4 dcp4 pmp4 anp4 cdp4 ctp4), slp4⟩)
    (cp4 : PySem.W.codeIn K cdp4 "Parsed.put_step" = true)
    (kp4 : PySem.W.keepIn K (.ref p4) = true)
    (ep5 : PySem.W.findIn K (.ref Cp) "read_value" = some (some (.ref p5)))
    (tp5 : PySem.W.typeIn K (.ref p5) = some (.type "function"))
    (lp5 : K.lookup p5 = some ⟨ocp5, odp5, .func (PySem.W.fnOf "read_value" "Parsed.read_value" (defArgs (inClass (topS 21) 5)) (defBody (inClass (topS 21) 5)) (defScope (inClass (topS 21) 5)) .none kVp5 dcp5 pmp5 anp5 cdp5 ctp5), slp5⟩)
    (cp5 : PySem.W.codeIn K cdp5 "Parsed.read_value" = true)
    (kp5 : PySem.W.keepIn K (.ref p5) = true)
    (ep6 : PySem.W.findIn K (.ref Cp) "read_operand" = some (some (.ref p6)))
    (tp6 : PySem.W.typeIn K (.ref p6) = some (.type "function"))
    (lp6 : K.lookup p6 = some ⟨ocp6, odp6, .func (PySem.W.fnOf "read_operand" "Parsed.read_operand" (defArgs (inClass (topS 21) 6)) (defBody (inClass (topS 21) 6)) (defScope (inClass (topS 21) 6)) .none kVp6 dcp6 pmp6 anp6 cdp6 ctp6), slp6⟩)
    (cp6 : PySem.W.codeIn K cdp6 "Parsed.read_operand" = true)
    (kp6 : PySem.W.keepIn K (.ref p6) = true)
    (mcq : PySem.W.nsIn K mainGlobals "Program" = some (some (.ref Cq)))
    (eq0 : PySem.W.findIn K (.ref Cq) "__init__" = some (some (.ref q0)))
    (tq0 : PySem.W.typeIn K (.ref q0) = some (.type "function"))
    (lq0 : K.lookup q0 = some ⟨ocq0, odq0, .func (PySem.W.fnOf "__init__" "Program.__init__" (defArgs (inClass (topS 33) 0)) (defBody (inClass (topS 33) 0)) (defScope (inClass (topS 33) 0)) .none kVq0 dcq0 pmq0 anq0 cdq0 ctq0), slq0⟩)
    (cq0 : PySem.W.codeIn K cdq0 "Program.__init__" = true)
    (kq0 : PySem.W.keepIn K (.ref q0) = true)
    (eq1 : PySem.W.findIn K (.ref Cq) "at" = some (some (.ref q1)))
    (tq1 : PySem.W.typeIn K (.ref q1) = some (.type "function"))
    (lq1 : K.lookup q1 = some ⟨ocq1, odq1, .func (PySem.W.fnOf "at" "Program.at" (defArgs (inClass (topS 33) 1)) (defBody (inClass (topS 33) 1)) (defScope (inClass (topS 33) 1)) .none kVq1 dcq1 pmq1 anq1 cdq1 ctq1), slq1⟩)
    (cq1 : PySem.W.codeIn K cdq1 "Program.at" = true)
    (kq1 : PySem.W.keepIn K (.ref q1) = true)
    (eq2 : PySem.W.findIn K (.ref Cq) "all_at" = some (some (.ref q2)))
    (tq2 : PySem.W.typeIn K (.ref q2) = some (.type "function"))
    (lq2 : K.lookup q2 = some ⟨ocq2, odq2, .func (PySem.W.fnOf "all_at" "Program.all_at" (defArgs (inClass (topS 33) 2)) (defBody (inClass (topS 33) 2)) (defScope (inClass (topS 33) 2)) .none kVq2 dcq2 pmq2 anq2 cdq2 ctq2), slq2⟩)
    (cq2 : PySem.W.codeIn K cdq2 "Program.all_at" = true)
    (kq2 : PySem.W.keepIn K (.ref q2) = true)
    (zint : PySem.W.nsIn K mainGlobals "int" = some none)
    (zlist : PySem.W.nsIn K mainGlobals "list" = some none)
    (zlen : PySem.W.nsIn K mainGlobals "len" = some none)
    (zrange : PySem.W.nsIn K mainGlobals "range" = some none)
    (zstr : PySem.W.nsIn K mainGlobals "str" = some none)
    (zisinstance : PySem.W.nsIn K mainGlobals "isinstance" = some none)
    (zbool : PySem.W.nsIn K mainGlobals "bool" = some none)
    (ztuple : PySem.W.nsIn K mainGlobals "tuple" = some none)
    (zabs : PySem.W.nsIn K mainGlobals "abs" = some none)
    (zmax : PySem.W.nsIn K mainGlobals "max" = some none)
    (zmin : PySem.W.nsIn K mainGlobals "min" = some none)
    (zenumerate : PySem.W.nsIn K mainGlobals "enumerate" = some none)
    (bigA : insB K Cp ["tables", "steps", "places"] = true)
    (bigG : insB K Cq ["text", "tables", "steps", "names"] = true)
    (bigE : (decide (PySem.W.findIn K (.ref Cq) "__eq__" = some (some (.builtin "object.__eq__"))) && decide (PySem.W.mroIn K Cq (.type "object") = some true)) = true)
    (aNO : PySem.W.nsIn K mainGlobals "NO_NAMES" = some (some (.ref NO)))
    (tNO : K.lookup NO = some ⟨.type "tuple", fN, .seq #[Value.str "x" tNa, Value.str "table" tNb] nN, sN⟩)
    (mW : PySem.W.nsIn K mainGlobals "TooWide" = some (some (.ref CW)))
    (mE : PySem.W.nsIn K mainGlobals "CurveError" = some (some (.ref CE)))
    (bigW : twB K CW = true)
    (bigX : (xfB K C0 && decide (PySem.W.exmOne K (.ref C0) (.ref C0) = some true)) = true)
    (w0 : xfB K C1 = true)
    (w1 : xfB K C2 = true)
    (w2 : ecB K C1 = true)
    (w3 : ecB K C2 = true)
    (w4 : ecB K CW = true)
    (w5 : PySem.W.kitOne K (.ref C1) (.ref CE) = some true)
    (w6 : PySem.W.kitOne K (.ref C2) (.ref CE) = some true)
    (w7 : PySem.W.kitOne K (.ref CW) (.ref CE) = some true)
    (w8 : PySem.W.exmOne K (.ref C1) (.ref C1) = some true)
    (w9 : PySem.W.exmOne K (.ref C2) (.ref C1) = some false)
    (w10 : PySem.W.exmOne K (.ref C2) (.ref C2) = some true)
    (w11 : PySem.W.exmOne K (.ref CW) (.ref C1) = some false)
    (w12 : PySem.W.exmOne K (.ref CW) (.ref C2) = some false)
    (w13 : PySem.W.exmOne K (.ref CW) (.ref CW) = some true) :
    LawG l w K CX0 17 63 "_law_script" mg fa h := by
  have e := hfa.symm.trans (PySem.W.mg_of X G a30)
  cases e
  have mgo : ∀ {x : Str} {a : Value}, PySem.W.nsIn K mainGlobals x = some (some a) → mg x = some a := fun z => PySem.W.mg_of X G z
  have mgn : ∀ {x : Str}, PySem.W.nsIn K mainGlobals x = some none → mg x = none := fun z => PySem.W.mg_none_of X G z
  have tbL := TB "law" _ cL Pt _ _ _ _ _ _ trL (mgo a30) l30 rfl rfl tlL tvL
  have tbF := TB "_law_fixed_right" _ cF Pf _ _ _ _ _ _ trF (mgo a27) l27 rfl rfl tlF tvF
  have F0 := fun_mk (st := sPen) l0 c0 k0
  have F1 := fun_mk (st := sDraw) l1 c1 k1
  have F2 := fun_mk (st := sPick) l2 c2 k2
  have F3 := fun_mk (st := sIsWhole) l3 c3 k3
  have F4 := fun_mk (st := sFrom) l4 c4 k4
  have F5 := fun_mk (st := sBeh) l5 c5 k5
  have F6 := fun_mk (st := sIsD) l6 c6 k6
  have F7 := fun_mk (st := sRunE) l7 c7 k7
  have F8 := fun_mk (st := sIsW) l8 c8 k8
  have F9 := fun_mk (st := sRName) l9 c9 k9
  have F10 := fun_mk (st := sNSp) l10 c10 k10
  have F11 := fun_mk (st := sNSg) l11 c11 k11
  have F12 := fun_mk (st := sRDg) l12 c12 k12
  have F13 := fun_mk (st := sRNum) l13 c13 k13
  have F14 := fun_mk (st := sRCnt) l14 c14 k14
  have F15 := fun_mk (st := sLines) l15 c15 k15
  have F16 := fun_mk (st := sPars) l16 c16 k16
  have F17 := fun_mk (st := sNI) l17 c17 k17
  have F18 := fun_mk (st := sShf) l18 c18 k18
  have F19 := fun_mk (st := sJnd) l19 c19 k19
  have F20 := fun_mk (st := sOper) l20 c20 k20
  have F21 := fun_mk (st := sProgL) l21 c21 k21
  have F22 := fun_mk (st := sVT) l22 c22 k22
  have F23 := fun_mk (st := sLoose) l23 c23 k23
  have F24 := fun_mk (st := sRun) l24 c24 k24
  have F25 := fun_mk (st := sWhy) l25 c25 k25
  have F26 := fun_mk (st := sWith) l26 c26 k26
  have F27 := fun_mk (st := sFix) l27 c27 k27
  have F28 := fun_mk (st := sWLn) l28 c28 k28
  have F29 := fun_mk (st := sWTb) l29 c29 k29
  have F30 := fun_mk (st := sLaw) l30 c30 k30
  have b0 := F0.binds (ps := ["_law_script"]) fun _ _ _ _ _ _ us hl => match us, hl with | [_], _ => rfl
  have b1 := F1.binds (ps := ["_law_pen_here", "_law_many"]) fun _ _ _ _ _ _ us hl => match us, hl with | [_, _], _ => rfl
  have b2 := F2.binds (ps := ["_law_pen_here", "_law_some"]) fun _ _ _ _ _ _ us hl => match us, hl with | [_, _], _ => rfl
  have b3 := F3.binds (ps := ["value"]) fun _ _ _ _ _ _ us hl => match us, hl with | [_], _ => rfl
  have b4 := F4.binds (ps := ["value", "least"]) fun _ _ _ _ _ _ us hl => match us, hl with | [_, _], _ => rfl
  have b5 := F5.binds (ps := ["text", "at"]) fun _ _ _ _ _ _ us hl => match us, hl with | [_, _], _ => rfl
  have b6 := F6.binds (ps := ["text", "at"]) fun _ _ _ _ _ _ us hl => match us, hl with | [_, _], _ => rfl
  have b7 := F7.binds (ps := ["line", "at"]) fun _ _ _ _ _ _ us hl => match us, hl with | [_, _], _ => rfl
  have b8 := F8.binds (ps := ["line", "at", "word"]) fun _ _ _ _ _ _ us hl => match us, hl with | [_, _, _], _ => rfl
  have b9 := F9.binds (ps := ["line", "at", "barred"]) fun _ _ _ _ _ _ us hl => match us, hl with | [_, _, _], _ => rfl
  have b10 := F10.binds (ps := ["line", "at"]) fun _ _ _ _ _ _ us hl => match us, hl with | [_, _], _ => rfl
  have b11 := F11.binds (ps := ["line", "at", "sign"]) fun _ _ _ _ _ _ us hl => match us, hl with | [_, _, _], _ => rfl
  have b12 := F12.binds (ps := ["line", "at", "most"]) fun _ _ _ _ _ _ us hl => match us, hl with | [_, _, _], _ => rfl
  have b13 := F13.binds (ps := ["line", "at"]) fun _ _ _ _ _ _ us hl => match us, hl with | [_, _], _ => rfl
  have b14 := F14.binds (ps := ["line", "at"]) fun _ _ _ _ _ _ us hl => match us, hl with | [_, _], _ => rfl
  have b15 := F15.binds (ps := ["text"]) fun _ _ _ _ _ _ us hl => match us, hl with | [_], _ => rfl
  have b16 := F16.binds (ps := ["text"]) fun _ _ _ _ _ _ us hl => match us, hl with | [_], _ => rfl
  have b17 := F17.binds (ps := ["x"]) fun _ _ _ _ _ _ us hl => match us, hl with | [_], _ => rfl
  have b18 := F18.binds (ps := ["sign", "number", "count"]) fun _ _ _ _ _ _ us hl => match us, hl with | [_, _, _], _ => rfl
  have b19 := F19.binds (ps := ["sign", "number", "other"]) fun _ _ _ _ _ _ us hl => match us, hl with | [_, _, _], _ => rfl
  have b20 := F20.binds (ps := ["_law_pen_here", "_law_names"]) fun _ _ _ _ _ _ us hl => match us, hl with | [_, _], _ => rfl
  have b21 := F21.binds (ps := ["_law_pen_here", "_law_many", "_law_budget", "_law_degree"]) fun _ _ _ _ _ _ us hl => match us, hl with | [_, _, _, _], _ => rfl
  have b22 := F22.binds (ps := ["_law_step"]) fun _ _ _ _ _ _ us hl => match us, hl with | [_], _ => rfl
  have b23 := F23.binds (ps := ["_law_pen_here", "_law_steps"]) fun _ _ _ _ _ _ us hl => match us, hl with | [_, _], _ => rfl
  have b24 := F24.binds (ps := ["_law_steps", "_law_tables", "_law_x"]) fun _ _ _ _ _ _ us hl => match us, hl with | [_, _, _], _ => rfl
  have b25 := F25.binds (ps := ["_law_call"]) fun _ _ _ _ _ _ us hl => match us, hl with | [_], _ => rfl
  have b26 := F26.binds (ps := ["_law_pen_here", "_law_steps"]) fun _ _ _ _ _ _ us hl => match us, hl with | [_, _], _ => rfl
  have b27 := F27.binds (ps := []) fun _ _ _ _ _ _ us hl => match us, hl with | [], _ => rfl
  have b28 := F28.binds (ps := ["_law_pen_here"]) fun _ _ _ _ _ _ us hl => match us, hl with | [_], _ => rfl
  have b29 := F29.binds (ps := ["_law_pen_here"]) fun _ _ _ _ _ _ us hl => match us, hl with | [_], _ => rfl
  have FI0 := fun_mk (st := inClass (topS 2) 0) li0 ci0 ki0
  have bI0 := FI0.binds (ps := ["self", "column"]) fun _ _ _ _ _ _ us hl => match us, hl with | [_, _], _ => rfl
  have oo0 : OexC K C0 := oexB_ok ((Bool.and_eq_true_iff.mp (big0)).1) ⟨nm0, qn0, N0, bs0, bm0, sn0, sub0, ab0, col0, dd0, ka0, kb0, kc0, kd0, ke0, lc0, lb0⟩
  have no0_0 := (of_decide_eq_true (Bool.and_eq_true_iff.mp (big0)).2 : PySem.W.findIn K (.ref C0) "column" = some none)
  have FI1 := fun_mk (st := inClass (topS 3) 0) li1 ci1 ki1
  have bI1 := FI1.binds (ps := ["self", "line", "column"]) fun _ _ _ _ _ _ us hl => match us, hl with | [_, _, _], _ => rfl
  have oo1 : OexC K C1 := oexB_ok ((Bool.and_eq_true_iff.mp ((Bool.and_eq_true_iff.mp (big1)).1)).1) ⟨nm1, qn1, N1, bs1, bm1, sn1, sub1, ab1, col1, dd1, ka1, kb1, kc1, kd1, ke1, lc1, lb1⟩
  have no1_0 := (of_decide_eq_true (Bool.and_eq_true_iff.mp ((Bool.and_eq_true_iff.mp (big1)).1)).2 : PySem.W.findIn K (.ref C1) "line" = some none)
  have no1_1 := (of_decide_eq_true (Bool.and_eq_true_iff.mp (big1)).2 : PySem.W.findIn K (.ref C1) "column" = some none)
  have FI2 := fun_mk (st := inClass (topS 4) 0) li2 ci2 ki2
  have bI2 := FI2.binds (ps := ["self", "what", "number"]) fun _ _ _ _ _ _ us hl => match us, hl with | [_, _, _], _ => rfl
  have oo2 : OexC K C2 := oexB_ok ((Bool.and_eq_true_iff.mp ((Bool.and_eq_true_iff.mp (big2)).1)).1) ⟨nm2, qn2, N2, bs2, bm2, sn2, sub2, ab2, col2, dd2, ka2, kb2, kc2, kd2, ke2, lc2, lb2⟩
  have no2_0 := (of_decide_eq_true (Bool.and_eq_true_iff.mp ((Bool.and_eq_true_iff.mp (big2)).1)).2 : PySem.W.findIn K (.ref C2) "what" = some none)
  have no2_1 := (of_decide_eq_true (Bool.and_eq_true_iff.mp (big2)).2 : PySem.W.findIn K (.ref C2) "number" = some none)
  have Fp0 := fun_mk (st := inClass (topS 21) 0) lp0 cp0 kp0
  have bp0 := Fp0.binds (ps := ["self"]) fun _ _ _ _ _ _ us hl => match us, hl with | [_], _ => rfl
  have Fp1 := fun_mk (st := inClass (topS 21) 1) lp1 cp1 kp1
  have bp1 := Fp1.binds (ps := ["self", "line"]) fun _ _ _ _ _ _ us hl => match us, hl with | [_, _], _ => rfl
  have Fp2 := fun_mk (st := inClass (topS 21) 2) lp2 cp2 kp2
  have bp2 := Fp2.binds (ps := ["self", "line", "at"]) fun _ _ _ _ _ _ us hl => match us, hl with | [_, _, _], _ => rfl
  have Fp3 := fun_mk (st := inClass (topS 21) 3) lp3 cp3 kp3
  have bp3 := Fp3.binds (ps := ["self", "line", "at"]) fun _ _ _ _ _ _ us hl => match us, hl with | [_, _, _], _ => rfl
  have Fp4 := fun_mk (st := inClass (topS 21) 4) lp4 cp4 kp4
  have bp4 := Fp4.binds (ps := ["self", "line", "at"]) fun _ _ _ _ _ _ us hl => match us, hl with | [_, _, _], _ => rfl
  have Fp5 := fun_mk (st := inClass (topS 21) 5) lp5 cp5 kp5
  have bp5 := Fp5.binds (ps := ["self", "line", "at"]) fun _ _ _ _ _ _ us hl => match us, hl with | [_, _, _], _ => rfl
  have Fp6 := fun_mk (st := inClass (topS 21) 6) lp6 cp6 kp6
  have bp6 := Fp6.binds (ps := ["self", "line", "at"]) fun _ _ _ _ _ _ us hl => match us, hl with | [_, _, _], _ => rfl
  have Fq0 := fun_mk (st := inClass (topS 33) 0) lq0 cq0 kq0
  have bq0 := Fq0.binds (ps := ["self", "text"]) fun _ _ _ _ _ _ us hl => match us, hl with | [_, _], _ => rfl
  have Fq1 := fun_mk (st := inClass (topS 33) 1) lq1 cq1 kq1
  have bq1 := Fq1.binds (ps := ["self", "x"]) fun _ _ _ _ _ _ us hl => match us, hl with | [_, _], _ => rfl
  have Fq2 := fun_mk (st := inClass (topS 33) 2) lq2 cq2 kq2
  have bq2 := Fq2.binds (ps := ["self", "x"]) fun _ _ _ _ _ _ us hl => match us, hl with | [_, _], _ => rfl
  have B : Bi mg := { int := mgn zint, list := mgn zlist, len := mgn zlen, range := mgn zrange }
  have T : Bk mg := { toBi := B, isinstance := mgn zisinstance, bool := mgn zbool, tuple := mgn ztuple, abs := mgn zabs, str := mgn zstr }
  have bl : ∀ (s : Shared) (u : Value), BindsTo s (PySem.W.fnOf "law" "law" (defArgs sLaw) (defBody sLaw) (defScope sLaw) .none kVf30 dcf30 pmf30 anf30 (.ref cL) ctf30) ⟨[u], []⟩ [("_law_script", u)] := fun s u => .of_eq rfl
  refine ⟨_, [(cL, Pt), (cF, Pf)], spLaw K Pt Pf, (fun p hp => by rcases List.mem_cons.mp hp with h | h; (· rw [h]; exact tbL.2); (· rw [List.mem_singleton.mp h]; exact tbF.2)), (fun p hp => by rcases List.mem_cons.mp hp with h | h; (· rw [h]; exact tnL); (· rw [List.mem_singleton.mp h]; exact tnF)), (fun p hp => by rcases List.mem_cons.mp hp with h | h; (· rw [h]; exact tbL.1); (· rw [List.mem_singleton.mp h]; exact tbF.1)), (fun s u => bl s u), (fun H a ns hl _ hT hS => ⟨a, ns, rfl, hS, hl, hT _ List.mem_cons_self, hT _ (List.mem_cons_of_mem _ List.mem_cons_self), fun _ => rfl⟩), fun b _ _ mm1 hTB => ?_⟩
  have hTb : LamX.TabB b mg cL Pt := hTB _ List.mem_cons_self
  have hTbF : LamX.TabB b mg cF Pf := hTB _ (List.mem_cons_of_mem _ List.mem_cons_self)
  let NBadText : Ex l.prog w K mg b "BadText" C0 ["column"] := ⟨oo0, i0, _, mgo m0, ei0, ti0, bI0, iniBadText FI0 oo0 no0_0⟩
  let NBadLine : Ex l.prog w K mg b "BadLine" C1 ["line", "column"] := ⟨oo1, i1, _, mgo m1, ei1, ti1, bI1, iniBadLine FI1 oo1 no1_0 no1_1⟩
  let NBadNumber : Ex l.prog w K mg b "BadNumber" C2 ["what", "number"] := ⟨oo2, i2, _, mgo m2, ei2, ti2, bI2, iniBadNumber FI2 oo2 no2_0 no2_1⟩
  let G_law_draw : Df l.prog w K mg b "_law_draw" 1 ["_law_pen_here", "_law_many"] spDraw := ⟨f1, _, mgo a1, k1, b1, ok_draw F1 B⟩
  let G_law_pick : Df l.prog w K mg b "_law_pick" 2 ["_law_pen_here", "_law_some"] spPick := ⟨f2, _, mgo a2, k2, b2, ok_pick F2 B G_law_draw⟩
  let G_law_pen : Df l.prog w K mg b "_law_pen" 1 ["_law_script"] (spPen K) := ⟨f0, _, mgo a0, k0, b0, ok_pen F0 B⟩
  let Gis_whole : Df l.prog w K mg b "is_whole" 1 ["value"] (spWhole K) := ⟨f3, _, mgo a3, k3, b3, ok_is_whole F3 T⟩
  let Gis_whole_from : Df l.prog w K mg b "is_whole_from" 2 ["value", "least"] (spFrom K) := ⟨f4, _, mgo a4, k4, b4, ok_from F4 Gis_whole⟩
  let Gbehind_spaces : Df l.prog w K mg b "behind_spaces" 1 ["text", "at"] spBeh := ⟨f5, _, mgo a5, k5, b5, ok_beh F5⟩
  let Gis_digit : Df l.prog w K mg b "is_digit" 1 ["text", "at"] spIsD := ⟨f6, _, mgo a6, k6, b6, ok_isd F6 T (mgo acDIGITS)⟩
  let Grun_end : Df l.prog w K mg b "run_end" 1 ["line", "at"] spRunE := ⟨f7, _, mgo a7, k7, b7, ok_rune F7 (mgo acNAME_SIGNS)⟩
  let Gis_word : Df l.prog w K mg b "is_word" 2 ["line", "at", "word"] spIsW := ⟨f8, _, mgo a8, k8, b8, ok_isw F8 Grun_end⟩
  let Gneed_space : Dn l.prog w K mg b "need_space" 3 ["line", "at"] (spNSp C0) := ⟨f10, _, mgo a10, k10, b10, ok_nsp F10 NBadText Gbehind_spaces⟩
  let Gneed_sign : Dn l.prog w K mg b "need_sign" 3 ["line", "at", "sign"] (spNSg C0) := ⟨f11, _, mgo a11, k11, b11, ok_nsg F11 NBadText Gbehind_spaces⟩
  let Gread_name : Dn l.prog w K mg b "read_name" 3 ["line", "at", "barred"] (spRName K C0) := ⟨f9, _, mgo a9, k9, b9, ok_rname F9 (mgo acLETTERS) (mgo acMOST_SIGNS) NBadText Grun_end⟩
  let Gread_digits : Dn l.prog w K mg b "read_digits" 3 ["line", "at", "most"] (spRDg C0) := ⟨f12, _, mgo a12, k12, b12, ok_rdg F12 T NBadText Gis_digit⟩
  let Gread_number : Dn l.prog w K mg b "read_number" 4 ["line", "at"] (spRNum C0) := ⟨f13, _, mgo a13, k13, b13, ok_rnum F13 (mgo acMOST_DIGITS) Gread_digits⟩
  let Gread_count : Dn l.prog w K mg b "read_count" 4 ["line", "at"] (spRCnt C0) := ⟨f14, _, mgo a14, k14, b14, ok_rcnt F14 T (mgo acMOST_COUNT) NBadText Gis_digit Gread_digits⟩
  let Glines_of : Df l.prog w K mg b "lines_of" 1 ["text"] spLns := ⟨f15, _, mgo a15, k15, b15, ok_lines F15⟩
  obtain ⟨Acl, Anf, Amk, Akp⟩ := insC bigA
  obtain ⟨Gcl, Gnf, Gmk, Gkp⟩ := insC bigG
  have PA_ : PaC K mg Cp := ⟨mgo mcp, Acl, Anf _ (by simp), Anf _ (by simp), Anf _ (by simp)⟩
  have PR_ : PrC K mg Cq := ⟨mgo mcq, Gcl, Gnf _ (by simp), Gnf _ (by simp), Gnf _ (by simp), Gnf _ (by simp)⟩
  let PA_I : PaM l.prog w K mg b Cp := ⟨p0, _, ⟨Amk, ep0, fn_of_ty tp0, Akp⟩, bp0, ok_psi Fp0 PA_⟩
  have hNO : ∀ H, SqT K H NO ([[120], tableW].map fun w => V.str (Tx w)) := fun H => .inr ⟨_, _, _, tNO, rfl, rfl, (by show 2 ≤ sizeLine; decide), .cons ⟨_, by rw [← lit_x]⟩ (.cons ⟨_, by rw [← lit_table]⟩ .nil)⟩
  let M_read_operand : Mx l.prog w K mg b Cp "read_operand" 5 ["self", "line", "at"] (spROpd Cp C0) := ⟨p6, _, ⟨ep6, fn_of_ty tp6, kp6⟩, bp6, ok_ropd Fp6 (mgo acLETTERS) PA_ NBadText Gbehind_spaces Gread_number Gread_name⟩
  let M_read_value : Mx l.prog w K mg b Cp "read_value" 6 ["self", "line", "at"] (spRVal Cp C0) := ⟨p5, _, ⟨ep5, fn_of_ty tp5, kp5⟩, bp5, ok_rval Fp5 T (mgo acLETTERS) PA_ NBadText Gbehind_spaces Gread_count Gread_name Gneed_sign M_read_operand⟩
  let M_new_name : Mx l.prog w K mg b Cp "new_name" 4 ["self", "line", "at"] (spNewN Cp C0) := ⟨p2, _, ⟨ep2, fn_of_ty tp2, kp2⟩, bp2, ok_newn Fp2 (mgo aNO) hNO PA_ NBadText Gread_name⟩
  let M_put_table : Mx l.prog w K mg b Cp "put_table" 5 ["self", "line", "at"] (spPut Cp C0 pTable) := ⟨p3, _, ⟨ep3, fn_of_ty tp3, kp3⟩, bp3, ok_ptab Fp3 T PA_ Gneed_space Gbehind_spaces Gread_number M_new_name⟩
  let M_put_step : Mx l.prog w K mg b Cp "put_step" 7 ["self", "line", "at"] (spPut Cp C0 pStep) := ⟨p4, _, ⟨ep4, fn_of_ty tp4, kp4⟩, bp4, ok_pstp Fp4 T PA_ NBadText Gneed_sign Gbehind_spaces M_new_name M_read_value⟩
  let M_put_line : Mx l.prog w K mg b Cp "put_line" 8 ["self", "line"] (spPLin Cp C0) := ⟨p1, _, ⟨ep1, fn_of_ty tp1, kp1⟩, bp1, ok_plin Fp1 T PA_ Gbehind_spaces Gis_word M_put_table M_put_step⟩
  obtain ⟨bX1, bX2⟩ := Bool.and_eq_true_iff.mp bigX
  let CT_ : Ct l.prog w K mg b C0 C1 := ⟨mgo m0, of_decide_eq_true bX2, xfB_ok bX1, no0_0, NBadLine, hotBadLine FI1 oo1 no1_0 no1_1⟩
  let Gparsed_program : Dx l.prog w K mg b "parsed_program" 9 ["text"] (spPars Cp C1) := ⟨f16, _, mgo a16, k16, b16, ok_pars F16 T (mgn zenumerate) PA_ PA_I CT_ Glines_of M_put_line⟩
  let Gneed_input : Dx l.prog w K mg b "need_input" 3 ["x"] (spNeedX K C2) := ⟨f17, _, mgo a17, k17, b17, ok_ni F17 NBadNumber Gis_whole_from⟩
  let Gshifted : Df l.prog w K mg b "shifted" 1 ["sign", "number", "count"] spShf := ⟨f18, _, mgo a18, k18, b18, ok_shf F18⟩
  let Gjoined_numbers : Df l.prog w K mg b "joined_numbers" 1 ["sign", "number", "other"] spJnd := ⟨f19, _, mgo a19, k19, b19, ok_jnd F19⟩
  let PM : PrM l.prog w K mg b Cq C1 := ⟨PR_, q0, _, ⟨Gmk, eq0, fn_of_ty tq0, Gkp⟩, ok_pri Fq0 T PA_ PR_ NBadLine Gparsed_program, bq0⟩
  have W_ : Tw K mg CW := twB_ok (mgo mW) bigW
  let M_all_at : Mr l.prog w K mg b Cq "all_at" 4 ["self", "x"] (spAll K Cq C2 CW) := ⟨q2, _, ⟨eq2, fn_of_ty tq2, kq2⟩, bq2, ok_pall Fq2 T PR_ W_ Gneed_input Gshifted Gjoined_numbers⟩
  let M_at : Mr l.prog w K mg b Cq "at" 5 ["self", "x"] (spPAt K Cq C2 CW) := ⟨q1, _, ⟨eq1, fn_of_ty tq1, kq1⟩, bq1, ok_pat Fq1 PR_ M_all_at⟩
  let G_law_operand : Df l.prog w K mg b "_law_operand" 3 ["_law_pen_here", "_law_names"] spOper := ⟨f20, _, mgo a20, k20, b20, ok_oper F20 T mm1 G_law_draw G_law_pick⟩
  let G_law_program : Df l.prog w K mg b "_law_program" 4 ["_law_pen_here", "_law_many", "_law_budget", "_law_degree"] spProg := ⟨f21, _, mgo a21, k21, b21, ok_prog F21 T (mgn zmax) (mgn zmin) mm1 G_law_draw G_law_pick G_law_operand⟩
  let G_law_value_text : Df l.prog w K mg b "_law_value_text" 1 ["_law_step"] spVT := ⟨f22, _, mgo a22, k22, b22, ok_vt F22 T⟩
  let G_law_loose_text : Df l.prog w K mg b "_law_loose_text" 3 ["_law_pen_here", "_law_steps"] spLoose := ⟨f23, _, mgo a23, k23, b23, ok_loose F23 G_law_draw G_law_pick G_law_value_text⟩
  let G_law_run : Df l.prog w K mg b "_law_run" 1 ["_law_steps", "_law_tables", "_law_x"] spRun := ⟨f24, _, mgo a24, k24, b24, ok_run F24 T⟩
  let G_law_with_tables : Df l.prog w K mg b "_law_with_tables" 3 ["_law_pen_here", "_law_steps"] spWith := ⟨f26, _, mgo a26, k26, b26, ok_with F26 T mm1 G_law_draw G_law_pick⟩
  let G_law_wrong_line : Df l.prog w K mg b "_law_wrong_line" 3 ["_law_pen_here"] (spWays waysL) := ⟨f28, _, mgo a28, k28, b28, ok_wln F28 G_law_pick⟩
  let G_law_wrong_table : Df l.prog w K mg b "_law_wrong_table" 3 ["_law_pen_here"] (spWays waysT) := ⟨f29, _, mgo a29, k29, b29, ok_wtb F29 G_law_pick⟩
  have W : W76 K mg ([C1, C2, CW].getD · 0) CE := ⟨mgo m1, mgo m2, mgo mW, mgo mE, mgn zisinstance, xfB_ok w0, xfB_ok w1, ecB_ok w2, ecB_ok w3, ecB_ok w4, w5, w6, w7, w8, w9, w10, w11, w12, w13, no1_0, no1_1, no2_0, no2_1⟩
  let Y : Yy K mg := ⟨f25, kVf25, dcf25, pmf25, anf25, cdf25, ctf25, ocf25, odf25, slf25, mgo a25, k25, l25, c25, b25⟩
  obtain ⟨bE1, bE2⟩ := Bool.and_eq_true_iff.mp bigE
  let G_law_fixed_right : Df l.prog w K mg b "_law_fixed_right" 16 [] (spFixR Pf) := ⟨f27, _, mgo a27, k27, b27, ok_fix (C := ([C1, C2, CW].getD · 0)) F27 mm1 W PM PR_ M_all_at cF Pf rfl hTbF Y (of_decide_eq_true bE2) (of_decide_eq_true bE1)⟩
  exact ok_law (C := ([C1, C2, CW].getD · 0)) F30 T W mm1 cL Pt Pf hPf rfl hTb Y PM PR_ M_all_at M_at G_law_pen G_law_draw G_law_pick G_law_program G_law_with_tables G_law_loose_text G_law_run G_law_wrong_line G_law_wrong_table G_law_fixed_right
end Vf

open PySem PySem.W PyProof.Rows
set_option maxRecDepth 100000 in
set_option maxHeartbeats 0 in
theorem PySem.Challenge.cw_nearcurves_k76_whole_programs_read_holds : PySem.Challenge.rw_nearcurves_k76_whole_programs_read.Holds := by
  w_on; o_law; k_head; (case hw => w_witness2)
  k_fill
  refine Vf.walkT (l := PySem.Challenge.rw_nearcurves_k76_whole_programs_read) (n := 63) (k := 17) (C := fun _ => L2.CX0) (x := "_law_script") rfl (by decide) rfl ⟨rfl, by decide, by decide⟩ (by decide +kernel) (fun w h Y => PySem.W.km_in_of Y) ?F (fun _ _ _ _ _ z => z)
  case F =>
    intro w mg fa h Y X G hmg TB
    refine' Vf.all_mk X G hmg TB ?a0 ?l0 ?c0 ?k0 ?a1 ?l1 ?c1 ?k1 ?a2 ?l2 ?c2 ?k2 ?a3 ?l3 ?c3 ?k3 ?a4 ?l4 ?c4 ?k4 ?a5 ?l5 ?c5 ?k5 ?a6 ?l6 ?c6 ?k6 ?a7 ?l7 ?c7 ?k7 ?a8 ?l8 ?c8 ?k8 ?a9 ?l9 ?c9 ?k9 ?a10 ?l10 ?c10 ?k10 ?a11 ?l11 ?c11 ?k11 ?a12 ?l12 ?c12 ?k12 ?a13 ?l13 ?c13 ?k13 ?a14 ?l14 ?c14 ?k14 ?a15 ?l15 ?c15 ?k15 ?a16 ?l16 ?c16 ?k16 ?a17 ?l17 ?c17 ?k17 ?a18 ?l18 ?c18 ?k18 ?a19 ?l19 ?c19 ?k19 ?a20 ?l20 ?c20 ?k20 ?a21 ?l21 ?c21 ?k21 ?a22 ?l22 ?c22 ?k22 ?a23 ?l23 ?c23 ?k23 ?a24 ?l24 ?c24 ?k24 ?a25 ?l25 ?c25 ?k25 ?a26 ?l26 ?c26 ?k26 ?a27 ?l27 ?c27 ?k27 ?a28 ?l28 ?c28 ?k28 ?a29 ?l29 ?c29 ?k29 ?a30 ?l30 ?c30 ?k30 ?tlL ?tvL ?tnL ?trL ?tlF ?tvF ?tnF ?trF ?hPf ?acDIGITS ?acLETTERS ?acNAME_SIGNS ?acMOST_SIGNS ?acMOST_DIGITS ?acMOST_COUNT ?m0 ?ei0 ?ti0 ?li0 ?ci0 ?ki0 ?lc0 ?lb0 ?big0 ?m1 ?ei1 ?ti1 ?li1 ?ci1 ?ki1 ?lc1 ?lb1 ?big1 ?m2 ?ei2 ?ti2 ?li2 ?ci2 ?ki2 ?lc2 ?lb2 ?big2 ?mcp ?ep0 ?tp0 ?lp0 ?cp0 ?kp0 ?ep1 ?tp1 ?lp1 ?cp1 ?kp1 ?ep2 ?tp2 ?lp2 ?cp2 ?kp2 ?ep3 ?tp3 ?lp3 ?cp3 ?kp3 ?ep4 ?tp4 ?lp4 ?cp4 ?kp4 ?ep5 ?tp5 ?lp5 ?cp5 ?kp5 ?ep6 ?tp6 ?lp6 ?cp6 ?kp6 ?mcq ?eq0 ?tq0 ?lq0 ?cq0 ?kq0 ?eq1 ?tq1 ?lq1 ?cq1 ?kq1 ?eq2 ?tq2 ?lq2 ?cq2 ?kq2 ?zint ?zlist ?zlen ?zrange ?zstr ?zisinstance ?zbool ?ztuple ?zabs ?zmax ?zmin ?zenumerate ?bigA ?bigG ?bigE ?aNO ?tNO ?mW ?mE ?bigW ?bigX ?w0 ?w1 ?w2 ?w3 ?w4 ?w5 ?w6 ?w7 ?w8 ?w9 ?w10 ?w11 ?w12 ?w13
    (case a0 => k_is)
    (case l0 => k_is)
    (case c0 => k_is)
    (case k0 => k_is)
    (case a1 => k_is)
    (case l1 => k_is)
    (case c1 => k_is)
    (case k1 => k_is)
    (case a2 => k_is)
    (case l2 => k_is)
    (case c2 => k_is)
    (case k2 => k_is)
    (case a3 => k_is)
    (case l3 => k_is)
    (case c3 => k_is)
    (case k3 => k_is)
    (case a4 => k_is)
    (case l4 => k_is)
    (case c4 => k_is)
    (case k4 => k_is)
    (case a5 => k_is)
    (case l5 => k_is)
    (case c5 => k_is)
    (case k5 => k_is)
    (case a6 => k_is)
    (case l6 => k_is)
    (case c6 => k_is)
    (case k6 => k_is)
    (case a7 => k_is)
    (case l7 => k_is)
    (case c7 => k_is)
    (case k7 => k_is)
    (case a8 => k_is)
    (case l8 => k_is)
    (case c8 => k_is)
    (case k8 => k_is)
    (case a9 => k_is)
    (case l9 => k_is)
    (case c9 => k_is)
    (case k9 => k_is)
    (case a10 => k_is)
    (case l10 => k_is)
    (case c10 => k_is)
    (case k10 => k_is)
    (case a11 => k_is)
    (case l11 => k_is)
    (case c11 => k_is)
    (case k11 => k_is)
    (case a12 => k_is)
    (case l12 => k_is)
    (case c12 => k_is)
    (case k12 => k_is)
    (case a13 => k_is)
    (case l13 => k_is)
    (case c13 => k_is)
    (case k13 => k_is)
    (case a14 => k_is)
    (case l14 => k_is)
    (case c14 => k_is)
    (case k14 => k_is)
    (case a15 => k_is)
    (case l15 => k_is)
    (case c15 => k_is)
    (case k15 => k_is)
    (case a16 => k_is)
    (case l16 => k_is)
    (case c16 => k_is)
    (case k16 => k_is)
    (case a17 => k_is)
    (case l17 => k_is)
    (case c17 => k_is)
    (case k17 => k_is)
    (case a18 => k_is)
    (case l18 => k_is)
    (case c18 => k_is)
    (case k18 => k_is)
    (case a19 => k_is)
    (case l19 => k_is)
    (case c19 => k_is)
    (case k19 => k_is)
    (case a20 => k_is)
    (case l20 => k_is)
    (case c20 => k_is)
    (case k20 => k_is)
    (case a21 => k_is)
    (case l21 => k_is)
    (case c21 => k_is)
    (case k21 => k_is)
    (case a22 => k_is)
    (case l22 => k_is)
    (case c22 => k_is)
    (case k22 => k_is)
    (case a23 => k_is)
    (case l23 => k_is)
    (case c23 => k_is)
    (case k23 => k_is)
    (case a24 => k_is)
    (case l24 => k_is)
    (case c24 => k_is)
    (case k24 => k_is)
    (case a25 => k_is)
    (case l25 => k_is)
    (case c25 => k_is)
    (case k25 => k_is)
    (case a26 => k_is)
    (case l26 => k_is)
    (case c26 => k_is)
    (case k26 => k_is)
    (case a27 => k_is)
    (case l27 => k_is)
    (case c27 => k_is)
    (case k27 => k_is)
    (case a28 => k_is)
    (case l28 => k_is)
    (case c28 => k_is)
    (case k28 => k_is)
    (case a29 => k_is)
    (case l29 => k_is)
    (case c29 => k_is)
    (case k29 => k_is)
    (case a30 => k_is)
    (case l30 => k_is)
    (case c30 => k_is)
    (case k30 => k_is)
    (case tlL => k_is)
    (case tvL => first | rfl | k_is)
    (case tnL => first | kernel_rfl | k_is)
    (case trL => decide +kernel)
    (case tlF => k_is)
    (case tvF => first | rfl | k_is)
    (case tnF => first | kernel_rfl | k_is)
    (case trF => decide +kernel)
    (case hPf => decide)
    (case acDIGITS => k_is)
    (case acLETTERS => k_is)
    (case acNAME_SIGNS => k_is)
    (case acMOST_SIGNS => k_is)
    (case acMOST_DIGITS => k_is)
    (case acMOST_COUNT => k_is)
    (case m0 => k_is)
    (case ei0 => k_is)
    (case ti0 => k_is)
    (case li0 => k_is)
    (case ci0 => k_is)
    (case ki0 => k_is)
    (case lc0 => k_is)
    (case lb0 => decide +kernel)
    (case big0 => kernel_rfl)
    (case m1 => k_is)
    (case ei1 => k_is)
    (case ti1 => k_is)
    (case li1 => k_is)
    (case ci1 => k_is)
    (case ki1 => k_is)
    (case lc1 => k_is)
    (case lb1 => decide +kernel)
    (case big1 => kernel_rfl)
    (case m2 => k_is)
    (case ei2 => k_is)
    (case ti2 => k_is)
    (case li2 => k_is)
    (case ci2 => k_is)
    (case ki2 => k_is)
    (case lc2 => k_is)
    (case lb2 => decide +kernel)
    (case big2 => kernel_rfl)
    (case mcp => k_is)
    (case ep0 => k_is)
    (case tp0 => k_is)
    (case lp0 => k_is)
    (case cp0 => k_is)
    (case kp0 => k_is)
    (case ep1 => k_is)
    (case tp1 => k_is)
    (case lp1 => k_is)
    (case cp1 => k_is)
    (case kp1 => k_is)
    (case ep2 => k_is)
    (case tp2 => k_is)
    (case lp2 => k_is)
    (case cp2 => k_is)
    (case kp2 => k_is)
    (case ep3 => k_is)
    (case tp3 => k_is)
    (case lp3 => k_is)
    (case cp3 => k_is)
    (case kp3 => k_is)
    (case ep4 => k_is)
    (case tp4 => k_is)
    (case lp4 => k_is)
    (case cp4 => k_is)
    (case kp4 => k_is)
    (case ep5 => k_is)
    (case tp5 => k_is)
    (case lp5 => k_is)
    (case cp5 => k_is)
    (case kp5 => k_is)
    (case ep6 => k_is)
    (case tp6 => k_is)
    (case lp6 => k_is)
    (case cp6 => k_is)
    (case kp6 => k_is)
    (case mcq => k_is)
    (case eq0 => k_is)
    (case tq0 => k_is)
    (case lq0 => k_is)
    (case cq0 => k_is)
    (case kq0 => k_is)
    (case eq1 => k_is)
    (case tq1 => k_is)
    (case lq1 => k_is)
    (case cq1 => k_is)
    (case kq1 => k_is)
    (case eq2 => k_is)
    (case tq2 => k_is)
    (case lq2 => k_is)
    (case cq2 => k_is)
    (case kq2 => k_is)
    (case zint => k_is)
    (case zlist => k_is)
    (case zlen => k_is)
    (case zrange => k_is)
    (case zstr => k_is)
    (case zisinstance => k_is)
    (case zbool => k_is)
    (case ztuple => k_is)
    (case zabs => k_is)
    (case zmax => k_is)
    (case zmin => k_is)
    (case zenumerate => k_is)
    (case bigA => kernel_rfl)
    (case bigG => kernel_rfl)
    (case bigE => kernel_rfl)
    (case aNO => k_is)
    (case tNO => k_is)
    (case mW => k_is)
    (case mE => k_is)
    (case bigW => kernel_rfl)
    (case bigX => kernel_rfl)
    (case w0 => kernel_rfl)
    (case w1 => kernel_rfl)
    (case w2 => kernel_rfl)
    (case w3 => kernel_rfl)
    (case w4 => kernel_rfl)
    (case w5 => kernel_rfl)
    (case w6 => kernel_rfl)
    (case w7 => kernel_rfl)
    (case w8 => kernel_rfl)
    (case w9 => kernel_rfl)
    (case w10 => kernel_rfl)
    (case w11 => kernel_rfl)
    (case w12 => kernel_rfl)
    (case w13 => kernel_rfl)
