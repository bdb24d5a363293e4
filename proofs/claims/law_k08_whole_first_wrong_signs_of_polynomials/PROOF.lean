import PyProof.Rows.All
import Wide.All
import OpenK.AllK
import Wide.FinOn
import HandS.ForMost
import HandS.ForExc
import HandS.EndBits
import HandS.EndTab
import HandS.Lambda
import HandS.ExcInit
import HandS.ExcValue
import HandS.ExcIs
import HandS.IsInst
import PyProof.ReprLen
import PyProof.StrLawsRepr
import HandS.TryMany
import HandS.ExcField
import HandS.CallLocal
import HandS.Gcd
import HandS.Wide
import KE.DataEq
import HandS.SlotsOwn
import HandS.WordsExc
import KE.GoesZip
import KE.GoesMore
import KE.GoesEnum
import HandS.Zip
import HandS.TupAny
import PyProof.StrOps2
import KE.IntTextLaws
import PySem.Challenge.RW_nearcurves_k08_whole_first_wrong_signs_o
set_option Elab.async false
set_option linter.all false
set_option maxRecDepth 100000
set_option maxHeartbeats 4000000
/-! common: data with dicts, repr, a promise where no guard stands, the entry -/
namespace Vf
open PySem PySem.Spec PyProof.Rows L2

/-- a key as data -/
def kD : Key → PyData
  | .inl i => .int i
  | .inr x => .str x

mutual
/-- the value v, read in H, is the data d (dicts too) -/
inductive Dt (K : PySem.W.Frag) (H : Hp) : V → PyData → Prop
  | non : Dt K H .non .none
  | bl (b : Bool) : Dt K H (.bl b) (.bool b)
  | int (i : Int) : Dt K H (.int i) (.int i)
  | str (x : Str) : Dt K H (.str x) (.str x)
  | lst {a : Addr} {vs : List V} {ds : List PyData} : SqL K H a vs → Dts K H vs ds → Dt K H (.ref a) (.list ds)
  | tup {a : Addr} {vs : List V} {ds : List PyData} : SqT K H a vs → Dts K H vs ds → Dt K H (.ref a) (.tuple ds)
  | dct {a : Addr} {kvs : List (Key × V)} {ds : List PyData} : H a = some (.dK kvs) → Dts K H (kvs.map (·.2)) ds → Dt K H (.ref a) (.dict ((kvs.map fun p => kD p.1).zip ds))
inductive Dts (K : PySem.W.Frag) (H : Hp) : List V → List PyData → Prop
  | nil : Dts K H [] []
  | cons {v : V} {vs : List V} {d : PyData} {ds : List PyData} : Dt K H v d → Dts K H vs ds → Dts K H (v :: vs) (d :: ds)
end

theorem Dts.len {K : PySem.W.Frag} {H : Hp} : ∀ {vs : List V} {ds : List PyData}, Dts K H vs ds → vs.length = ds.length
  | _, _, .nil => rfl
  | _, _, .cons _ t => congrArg (· + 1) t.len
theorem Dts.at {K : PySem.W.Frag} {H : Hp} : ∀ {vs : List V} {ds : List PyData} {i : Nat} {v : V}, Dts K H vs ds → vs[i]? = some v → ∃ d, ds[i]? = some d ∧ Dt K H v d
  | _, _, _, _, .nil, e => by simp at e
  | _, _, 0, _, .cons h _, e => by simp at e; subst e; exact ⟨_, rfl, h⟩
  | _, _, i + 1, v, .cons _ t, e => by
    obtain ⟨d, h1, h2⟩ := t.at (i := i) (v := v) (by simpa using e)
    exact ⟨d, by simpa using h1, h2⟩
theorem Dts.app {K : PySem.W.Frag} {H : Hp} : ∀ {vs ws : List V} {ds es : List PyData}, Dts K H vs ds → Dts K H ws es → Dts K H (vs ++ ws) (ds ++ es)
  | _, _, _, _, .nil, h => h
  | _, _, _, _, .cons a t, h => .cons a (t.app h)
theorem Dts.take {K : PySem.W.Frag} {H : Hp} : ∀ {vs : List V} {ds : List PyData} (n : Nat), Dts K H vs ds → Dts K H (vs.take n) (ds.take n)
  | _, _, 0, _ => .nil
  | _, _, _ + 1, .nil => .nil
  | _, _, n + 1, .cons a t => .cons a (t.take n)

/-- all that is tracked in H stands in H' -/
theorem same_sqL {K : PySem.W.Frag} {H H' : Hp} {a : Addr} {xs : List V} (e : Same H H') (h : SqL K H a xs) : SqL K H' a xs := e.seq h
theorem same_sqT {K : PySem.W.Frag} {H H' : Hp} {a : Addr} {xs : List V} (e : Same H H') (h : SqT K H a xs) : SqT K H' a xs := by
  rcases h with (h | ⟨o, h⟩) | h
  · exact Or.inl (Or.inl (e a _ h))
  · exact Or.inl (Or.inr ⟨o, e a _ h⟩)
  · exact Or.inr h
mutual
theorem Dt.mono {K : PySem.W.Frag} {H H' : Hp} (e : Same H H') : ∀ {v : V} {d : PyData}, Dt K H v d → Dt K H' v d
  | _, _, .non => .non
  | _, _, .bl b => .bl b
  | _, _, .int i => .int i
  | _, _, .str x => .str x
  | _, _, .lst h1 h2 => .lst (same_sqL e h1) (Dts.mono e h2)
  | _, _, .tup h1 h2 => .tup (same_sqT e h1) (Dts.mono e h2)
  | _, _, .dct h1 h2 => .dct (e _ _ h1) (Dts.mono e h2)
theorem Dts.mono {K : PySem.W.Frag} {H H' : Hp} (e : Same H H') : ∀ {vs : List V} {ds : List PyData}, Dts K H vs ds → Dts K H' vs ds
  | _, _, .nil => .nil
  | _, _, .cons h1 h2 => .cons (Dt.mono e h1) (Dts.mono e h2)
end

/-- the dict of modules stands in the base -/
def M1 (b : Heap) : Prop := ∃ o es ep, b.get? sysModules = some o ∧ o.data = .dict es ep

theorem key_reads {h : Heap} {P : Program} {w : World} : ∀ {es : List DictEntry} {vs : List (Key × Value)} {ps : List (Key × V)}, PySem.Pairs (mixKind P w) es vs → KV ps vs →
    ReadsAll h (es.map (·.key)) (ps.map fun p => kD p.1) [] ∧ Vals (ps.map (·.2)) (es.map (·.val))
  | _, _, _, .nil, .nil => ⟨.nil, .nil⟩
  | _, _, _, .cons k1 k2 t, .cons r1 r2 => by
    obtain ⟨g1, g2⟩ := key_reads (h := h) t r2
    obtain ⟨e1, e2⟩ := r1
    refine ⟨?_, .cons (by have z := e2; rw [← k2] at z; exact z) g2⟩
    rw [← e1] at k1
    rename_i e kv es' kvs' p ps'
    have k3 : keyIs p.1 e.key = true := k1
    rcases keyIs_shape k3 with ⟨i, t, a1, a2⟩ | ⟨x, t, a1, a2⟩
    · have z : Reads h e.key (kD p.1) [] := by rw [a1, a2]; exact .int i t
      exact .cons (as := []) (bs := []) z g1
    · have z : Reads h e.key (kD p.1) [] := by rw [a1, a2]; exact .str x t
      exact .cons (as := []) (bs := []) z g1
theorem zip_fst {α β : Type} : ∀ {l : List α} {r : List β}, l.length = r.length → (l.zip r).map (·.1) = l
  | [], _, _ => by simp
  | a :: l, [], h => by simp at h
  | a :: l, b :: r, h => by
    rw [List.zip_cons_cons, List.map_cons, zip_fst (by simpa using h)]
theorem zip_snd {α β : Type} : ∀ {l : List α} {r : List β}, l.length = r.length → (l.zip r).map (·.2) = r
  | [], [], _ => rfl
  | [], b :: r, h => by simp at h
  | a :: l, [], h => by simp at h
  | a :: l, b :: r, h => by
    rw [List.zip_cons_cons, List.map_cons, zip_snd (by simpa using h)]

section
variable {X : Cx} {pins : List (Addr × Obj)} {σ : L2.St} {H : Hp} {s : Shared}
theorem not_sys (I : Inv X pins σ H s) (m : M1 X.base) {a : Addr} {o : Obj} {vs : Array Value} {n : Nat} (e : s.heap.get? a = some o) (d : o.data = .seq vs n) : sysModules ≠ a := fun z => by
  obtain ⟨o1, es, ep, e1, e2⟩ := m
  have q := I.bk _ _ e1
  rw [z, e] at q
  cases q
  rw [d] at e2
  cases e2
mutual
theorem Dt.reads (I : Inv X pins σ H s) (m : M1 X.base) : ∀ {v : V} {d : PyData} {u : Value}, Dt X.K H v d → RelV v u → ∃ as, Reads s.heap u d as ∧ sysModules ∉ as
  | _, _, u, .non, r => by
    obtain rfl : u = Value.none := r
    exact ⟨[], .none, by simp⟩
  | _, _, u, .bl b, r => by
    obtain rfl : u = Value.bool b := r
    exact ⟨[], .bool b, by simp⟩
  | _, _, u, .int i, r => by
    obtain ⟨t, rfl⟩ := r
    exact ⟨[], .int i t, by simp⟩
  | _, _, u, .str x, r => by
    obtain ⟨t, rfl⟩ := r
    exact ⟨[], .str x t, by simp⟩
  | _, _, u, .lst (a := a) h1 h2, r => by
    obtain rfl : u = Value.ref a := r
    obtain ⟨its, rv, ⟨o, n, e1, e2, e3, e4⟩, hz⟩ := I.list h1
    obtain ⟨as, ra, na⟩ := Dts.reads I m h2 rv
    refine ⟨_, .list e1 e2 e4 (by simpa using ra), fun z => ?_⟩
    rcases List.mem_cons.mp z with z | z
    · exact not_sys I m e1 e4 z
    · exact na z
  | _, _, u, .tup (a := a) h1 h2, r => by
    obtain rfl : u = Value.ref a := r
    obtain ⟨its, rv, ⟨o, e1, e2, n, e4⟩, hz⟩ := I.tuple h1
    obtain ⟨as, ra, na⟩ := Dts.reads I m h2 rv
    exact ⟨_, .tuple e1 e2 e4 (by simpa using ra), na⟩
  | _, _, u, .dct (a := a) (kvs := ps) (ds := ds) h1 h2, r => by
    obtain rfl : u = Value.ref a := r
    obtain ⟨hz, hs, vs, kv, o, es, ep, e1, ex, e2, hk, hp, hn⟩ := dk_of I.hok h1
    obtain ⟨g1, g2⟩ := key_reads (h := s.heap) hp kv
    obtain ⟨bs, rb, nb⟩ := Dts.reads I m h2 g2
    have hl : (ps.map fun p => kD p.1).length = ds.length := by
      have z := h2.len
      rw [List.length_map] at z ⊢
      exact z
    refine ⟨a :: [] ++ bs, .dict e1 ex.1 e2 (by rw [zip_fst hl]; exact g1) (by rw [zip_snd hl]; exact rb), fun z => ?_⟩
    rcases List.mem_cons.mp z with z | z
    · rw [z] at hs
      simp at hs
    · exact nb z
theorem Dts.reads (I : Inv X pins σ H s) (m : M1 X.base) : ∀ {vs : List V} {ds : List PyData} {us : List Value}, Dts X.K H vs ds → Vals vs us → ∃ as, ReadsAll s.heap us ds as ∧ sysModules ∉ as
  | _, _, _, .nil, .nil => ⟨[], .nil, by simp⟩
  | _, _, _, .cons h1 h2, .cons r1 r2 => by
    obtain ⟨as, q1, n1⟩ := Dt.reads I m h1 r1
    obtain ⟨bs, q2, n2⟩ := Dts.reads I m h2 r2
    refine ⟨as ++ bs, .cons q1 q2, fun z => ?_⟩
    rcases List.mem_append.mp z with z | z
    · exact n1 z
    · exact n2 z
end
end

/-- the sizes of the parts of a text of data -/
def small : PyData → Prop := fun d => d.showable = true ∧ d.depth ≤ 64 ∧ d.shown.length ≤ sizeLine
/-- repr of data, where no guard stands -/
theorem call_reprD {X : Cx} {k : Nat} (hg : X.A.guards = some []) (hr : Room k X.A) (m : M1 X.base) :
    CallR X (.builtin "repr") (fun xs H Q => ∃ v d, xs = [v] ∧ Dt X.K H v d ∧ small d ∧ Q (.str d.shown) H) := by
  intro pins s σ H xs us Q I r h
  obtain ⟨v, d, rfl, hd, ⟨hs, hz, hl⟩, q⟩ := h
  obtain ⟨u, rfl, ru⟩ := vals1 r
  obtain ⟨as, rd, na⟩ := Dt.reads I m hd ru
  cases rd with
  | none => exact PySem.P.repr_of_none ⟨.str _, H, I.tok _, ⟨_, rfl⟩, by simpa only [PyData.shown] using q⟩
  | bool b => exact PySem.P.repr_of_bool ⟨.str _, H, I.tok _, ⟨_, rfl⟩, by simpa only [PyData.shown] using q⟩
  | int i t => exact PySem.P.repr_of_int (by simpa [PyData.showable] using hs) ⟨.str _, H, I.tok _, ⟨_, rfl⟩, by simpa only [PyData.shown] using q⟩
  | str x t => exact PySem.P.repr_of_str ⟨.str _, H, I.tok _, ⟨_, rfl⟩, by simpa only [PyData.shown] using q⟩ (by simpa only [PyData.shown] using hl)
  | list a1 a2 a3 a4 => exact repr_of_reads' (.list a1 a2 a3 a4) hs (fun _ => na) hg (by have := hr.un; omega) (fun _ _ e => e) (fun h' u tk hk => ⟨.str _, H, I.kept hk, ⟨_, rfl⟩, q⟩) hl
  | tuple a1 a2 a3 a4 => exact repr_of_reads' (.tuple a1 a2 a3 a4) hs (fun _ => na) hg (by have := hr.un; omega) (fun _ _ e => e) (fun h' u tk hk => ⟨.str _, H, I.kept hk, ⟨_, rfl⟩, q⟩) hl
  | dict a1 a2 a3 a4 a5 => exact repr_of_reads' (.dict a1 a2 a3 a4 a5) hs (fun _ => na) hg (by have := hr.un; omega) (fun _ _ e => e) (fun h' u tk hk => ⟨.str _, H, I.kept hk, ⟨_, rfl⟩, q⟩) hl

/-! ### a promise that is asked only where no guard stands -/
structure FnG (P : Program) (w : World) (K : PySem.W.Frag) (mg : Str → Option Value) (base : Heap) (C : CXT) (k : Nat) (f : Addr) (fd : FuncData) (ps : List Str) (sp : Sp) : Prop where
  arity : ∀ vs H Q E, sp vs H Q E → vs.length = ps.length
  go : ∀ {A : Around} {out : List Env} {s : Shared} {H : Hp} {args : Args} {us : List Value} {vs : List V} {Q : VK} {E : XK}, A.guards = some [] → Room k A → Env0 P w K mg base A out s H → BindsTo s fd args (ps.zip us) →
    Vals vs us → sp vs H Q E → codeAny (model P w) A (.call (.ref f) args) (CR C out P w H s Q E) s
theorem fnG_of {C : CXT} {P : Program} {w : World} {K : PySem.W.Frag} {mg : Str → Option Value} {base : Heap} {x qual : Str} {st : Stmt} {f : Addr} {fd : FuncData} {N ps : List Str} {k : Nat} {sp : Sp} (F : Fun K x qual st f fd) (S : FnScope N ps (defScope st))
    (ar : ∀ vs H Q E, sp vs H Q E → vs.length = ps.length)
    (body : ∀ (cdv : Value) (A : Around) (out : List Env) (s : Shared) (H : Hp) (vs : List V) (Q : VK) (E : XK), A.guards = some [] → Room k (A.deeper (envOfC qual (defScope st) s.heap.objs.size f cdv)) → PySem.W.codeIn K cdv qual = true → sp vs H Q E →
      ∃ t, PSs (cxOf C P w K mg base N qual (defScope st) f cdv A out s H E) (defBody st) t ∧ t { nx := fun _ H' => Q .non H', rt := Q } (start N vs) H) : FnG P w K mg base C (k + 1) f fd ps sp := by
  obtain ⟨oc, od, kV, doc, pm, an, cdv, ct, osl, e, lk, hcd⟩ := F.ex
  subst e
  refine ⟨ar, fun {A out s H args us vs Q E} hgu hr e0 hb r h => ?_⟩
  exact LamX.run_ofS lk hcd S hr e0 hb r (ar _ _ _ _ h) fun hr' => body cdv A out s H vs Q E hgu hr' hcd h

theorem fnG_of0 {P : Program} {w : World} {K : PySem.W.Frag} {mg : Str → Option Value} {base : Heap} {x qual : Str} {st : Stmt} {f : Addr} {fd : FuncData} {N ps : List Str} {k : Nat} {sp : Sp} (F : Fun K x qual st f fd) (S : FnScope N ps (defScope st))
    (ar : ∀ vs H Q E, sp vs H Q E → vs.length = ps.length)
    (body : ∀ (cdv : Value) (A : Around) (out : List Env) (s : Shared) (H : Hp) (vs : List V) (Q : VK) (E : XK), A.guards = some [] → Room k (A.deeper (envOfC qual (defScope st) s.heap.objs.size f cdv)) → PySem.W.codeIn K cdv qual = true → sp vs H Q E →
      ∃ t, PSs (cxOf CX0 P w K mg base N qual (defScope st) f cdv A out s H E).nox (defBody st) t ∧ t { nx := fun _ H' => Q .non H', rt := Q } (start N vs) H) : FnG P w K mg base CX0 (k + 1) f fd ps sp :=
  fnG_of F S ar fun cdv A out s H vs Q E h1 h2 h3 h4 => by
    obtain ⟨t, z, q⟩ := body cdv A out s H vs Q E h1 h2 h3 h4
    exact ⟨t, z.nox, q⟩

/-! ### the entry -/
/-- what is tracked where the law is called: the script, the tables of code objects -/
structure Fit (P : Program) (w : World) (K : PySem.W.Frag) (h : Heap) (cs : List (Addr × Addr)) (a : Addr) (ns : List Int) (H : Hp) : Prop where
  tabs : ∀ p ∈ cs, H p.2 = some (.tbl #[])
  scr : SqL K H a (ns.map V.int)
  held : HOk P w H h
  only : ∀ b u, H b = some u → (b = a ∧ K.lookup a = none ∧ ∃ o xs, u = .frz o (.lst xs)) ∨ ((∃ p ∈ cs, b = p.2) ∧ u = .tbl #[])
def isTab (cs : List (Addr × Addr)) (b : Addr) : Bool := cs.any fun p => p.2 == b
theorem isTab_mem {cs : List (Addr × Addr)} {b : Addr} (h : isTab cs b = true) : ∃ p ∈ cs, b = p.2 := by
  obtain ⟨p, hp, e⟩ := List.any_eq_true.mp h
  exact ⟨p, hp, (beq_iff_eq.mp e).symm⟩
theorem isTab_of {cs : List (Addr × Addr)} {p : Addr × Addr} (h : p ∈ cs) : isTab cs p.2 = true := List.any_eq_true.mpr ⟨p, h, beq_self_eq_true _⟩
/-- the heap as it is told at the entry -/
def entryH (t : Bool) (o : Obj) (ns : List Int) (cs : List (Addr × Addr)) (a : Addr) : Hp := fun b =>
  if isTab cs b = true then some (.tbl #[]) else if t = true ∧ b = a then some (.frz o (.lst (ns.map V.int))) else none
theorem fit_ex {P : Program} {w : World} {K : PySem.W.Frag} {h : Heap} {cs : List (Addr × Addr)} {a : Addr} {vs : List Value} {ns : List Int} (hK : K.In h) (hT : ∀ p ∈ cs, h.get? p.2 = some { cls := .none, data := .fields #[] })
    (ha : h.get? a = some { cls := .type "list", data := .seq vs.toArray }) (hi : IntsAre vs ns) (hl : ns.length ≤ sizeLine) : ∃ H, Fit P w K h cs a ns H := by
  have rv := vals_ints hi
  have nt : isTab cs a = false := by
    cases e : isTab cs a with
    | false => rfl
    | true =>
      obtain ⟨p, hp, e2⟩ := isTab_mem e
      have q := hT p hp
      rw [← e2, ha] at q
      cases q
  have hl2 : (ns.map V.int).length ≤ sizeLine := by rw [List.length_map]; exact hl
  cases hk : K.lookup a with
  | some o =>
    have q := hK a o hk
    rw [ha] at q
    have q2 := Option.some.inj q
    refine ⟨entryH false { cls := .type "list", data := .seq vs.toArray } ns cs a, fun p hp => if_pos (isTab_of hp), ?_, fun b u e => ?_, fun b u e => ?_⟩
    · refine Or.inr ⟨o, vs.toArray, 0, hk, by rw [← q2], by rw [← q2], by rw [← q2], ?_, by simpa using rv⟩
      rw [List.size_toArray, hi.length]
      exact hl
    all_goals
      unfold entryH at e
      by_cases t : isTab cs b = true
      · rw [if_pos t] at e
        obtain ⟨p, hp, e2⟩ := isTab_mem t
        cases e
        first
          | (rw [e2]; exact hT p hp)
          | exact Or.inr ⟨⟨p, hp, e2⟩, rfl⟩
      · rw [if_neg t, if_neg (fun z => Bool.false_ne_true z.1)] at e
        cases e
  | none =>
    refine ⟨entryH true { cls := .type "list", data := .seq vs.toArray } ns cs a, fun p hp => if_pos (isTab_of hp), ?_, fun b u e => ?_, fun b u e => ?_⟩
    · refine Or.inl (Or.inr ⟨{ cls := .type "list", data := .seq vs.toArray }, ?_⟩)
      unfold entryH
      rw [if_neg (by rw [nt]; decide), if_pos ⟨rfl, rfl⟩]
    all_goals
      unfold entryH at e
      by_cases t : isTab cs b = true
      · rw [if_pos t] at e
        obtain ⟨p, hp, e2⟩ := isTab_mem t
        cases e
        first
          | (rw [e2]; exact hT p hp)
          | exact Or.inr ⟨⟨p, hp, e2⟩, rfl⟩
      · rw [if_neg t] at e
        by_cases ba : b = a
        · rw [if_pos ⟨rfl, ba⟩] at e
          cases e
          first
            | (rw [ba]; exact ⟨ha, hl2, vs, _, rv, ha⟩)
            | exact Or.inl ⟨ba, hk, _, _, rfl⟩
        · rw [if_neg (fun z => ba z.2)] at e
          cases e
/-- the law's call, from its promise where no guard stands -/
theorem law_enter {P : Program} {w : World} {K : PySem.W.Frag} {mg mb : Str → Option Value} {C : CXT} {k : Nat} {fa a : Addr} {cs : List (Addr × Addr)} {fd : FuncData} {x : Str} {sp : Sp} {s1 : Shared} {vs : List Value} {ns : List Int}
    (hK : K.In s1.heap) (hG : s1.heap.Ns mainGlobals mg) (hB : s1.heap.Ns builtinsNs mb) (hBB : ∀ x : Str, x ≠ "__name__" → mb x = bootBuiltins x) (hL : s1.heap.NoLimit) (hg : s1.gens = #[])
    (hT : ∀ p ∈ cs, s1.heap.get? p.2 = some { cls := .none, data := .fields #[] }) (nT : ∀ p ∈ cs, K.lookup p.2 = none) (hC : ∀ p ∈ cs, PySem.W.CodeHd s1.heap p.1 p.2)
    (hM : ∃ (bm : Addr) (ob : Obj), mg "__builtins__" = some (.ref bm) ∧ bm ≠ builtinsNs ∧ s1.heap.get? bm = some ob ∧ ob.cls = .type "module" ∧ ob.dict = some builtinsNs ∧ ob.data = .plain)
    (hs : M1 s1.heap) (ha : s1.heap.get? a = some { cls := .type "list", data := .seq vs.toArray }) (hi : IntsAre vs ns) (hl : ns.length ≤ sizeLine) (hr : Room k callerA)
    (F : ∀ b : Heap, K.In b → b.Ns mainGlobals mg → M1 b → (∀ p ∈ cs, LamX.TabB b mg p.1 p.2) → FnG P w K mg b C k fa fd [x] sp) (bind : ∀ (s : Shared) (u : Value), BindsTo s fd ⟨[u], []⟩ [(x, u)])
    (hsp : ∀ H : Hp, (∀ p ∈ cs, H p.2 = some (.tbl #[])) → SqL K H a (ns.map V.int) → sp [.ref a] H (fun v _ => v = .bl true) E0)
    (hE : ∀ H e s', C [] H s1 E0 e s' → False) :
    codeAny (model P w) callerA (.call (.ref fa) ⟨[.ref a], []⟩) (fun r s' => r = .ok (.ret (.bool true)) ∧ OldK s1.heap s'.heap ∧ s'.os = s1.os ∧ AllBare s'.gens) s1 := by
  obtain ⟨H, ft⟩ := fit_ex (P := P) (w := w) hK hT ha hi hl
  -- an object of neither kind is not tracked
  have un : ∀ {b : Addr} {o : Obj}, s1.heap.get? b = some o → (∀ us n, o.data ≠ .seq us n) → o.data ≠ .fields #[] → H b = none := by
    intro b o e n1 n2
    cases q : H b with
    | none => rfl
    | some u =>
      exfalso
      rcases ft.only b u q with ⟨z, _⟩ | ⟨⟨p, hp, z⟩, _⟩
      · rw [z, ha] at e
        cases e
        exact n1 _ _ rfl
      · rw [z, hT p hp] at e
        cases e
        exact n2 rfl
  have inB : ∀ {b : Addr} {o : Obj}, s1.heap.get? b = some o → (∀ us n, o.data ≠ .seq us n) → o.data ≠ .fields #[] → (hidT s1.heap H).get? b = some o := fun e n1 n2 => hidT_get e (un e n1 n2)
  have nsB : ∀ {b : Addr} {m : Str → Option Value}, s1.heap.Ns b m → (hidT s1.heap H).Ns b m := by
    intro b m ⟨o, es, ep, e, d, r⟩
    refine ⟨o, es, ep, inB e (fun us n z => ?_) (fun z => ?_), d, r⟩ <;> rw [d] at z <;> cases z
  have kB : K.In (hidT s1.heap H) := fun b o e => by
    refine hidT_get (hK b o e) ?_
    cases q : H b with
    | none => rfl
    | some u =>
      exfalso
      rcases ft.only b u q with ⟨z, n, _⟩ | ⟨⟨p, hp, z⟩, _⟩
      · rw [z, n] at e
        cases e
      · rw [z, nT p hp] at e
        cases e
  have mB : M1 (hidT s1.heap H) := by
    obtain ⟨o, es, ep, e, d⟩ := hs
    refine ⟨o, es, ep, inB e (fun us n z => ?_) (fun z => ?_), d⟩ <;> rw [d] at z <;> cases z
  have tB : ∀ p ∈ cs, LamX.TabB (hidT s1.heap H) mg p.1 p.2 := fun p hp => by
    obtain ⟨o, us, file, tf, flags, tg, inF, text, tt, c1, c2, c3, c4, c5, c6, c7, c8, c9, c10⟩ := hC p hp
    obtain ⟨bm, ob, d1, d2, d3, d4, d5, d6⟩ := hM
    have tp := hT p hp
    refine ⟨⟨o, us, file, tf, flags, tg, inF, text, tt, inB c1 (fun us n z => ?_) (fun z => ?_), c2, c3, c4, c5, c6, c7, c8, c9, c10⟩, ⟨bm, ob, d1, d2, fun z => ?_, fun z => ?_, inB d3 (fun us n z => ?_) (fun z => ?_), d4, d5, d6⟩, fun z => ?_⟩
    · rw [c3] at z
      cases z
    · rw [c3] at z
      cases z
      simp at c4
    · obtain ⟨o2, es, ep, e, d, _⟩ := hG
      rw [z, e] at d3
      cases d3
      rw [d] at d6
      cases d6
    · rw [z, tp] at d3
      cases d3
      cases d6
    · rw [d6] at z
      cases z
    · rw [d6] at z
      cases z
    · obtain ⟨o2, es, ep, e, d, _⟩ := hG
      rw [z, tp] at e
      cases e
      cases d
  have e0 : Env0 P w K mg (hidT s1.heap H) callerA [] s1 H := {
    frames := rfl
    mod := ⟨kB, nsB hG, ⟨mb, nsB hB, hBB⟩, let ⟨mc, z1, z2⟩ := hL; ⟨mc, nsB z1, z2⟩⟩
    bs := fun b o e => of_hidT e
    bsz := Nat.le_of_eq (hidT_size _ _)
    funs := trivial
    frf := fun b hb => nomatch (show b ∈ ([] : List Addr) from hb)
    hok := ft.held
    bare := .of_eq hg }
  refine codeAny_mono ((F _ kB (nsB hG) mB tB).go (us := [.ref a]) (vs := [.ref a]) rfl hr e0 (bind s1 _) (.cons rfl .nil) (hsp H ft.tabs ft.scr)) fun r s' h => ?_
  match r, h with
  | .error e, h => exact (hE H e s' h).elim
  | .ok .next, h => exact h.elim
  | .ok .brk, h => exact h.elim
  | .ok .cont, h => exact h.elim
  | .ok (.ret u), ⟨v, H', os, bare, U, held', rv, ev⟩ =>
    have ev2 : v = .bl true := ev
    rw [ev2] at rv
    obtain rfl : u = Value.bool true := rv
    have tab' : ∀ p ∈ cs, ∃ more : Array Value, s'.heap.get? p.2 = some { cls := .none, data := .fields more } := fun p hp => by
      obtain ⟨more, z⟩ := U.tbls p.2 #[] (ft.tabs p hp)
      exact ⟨_, held' _ _ z⟩
    have old : ∀ b o, isTab cs b = false → s1.heap.get? b = some o → s'.heap.get? b = some o := fun b o nb e => by
      cases q : H b with
      | none => exact U.keep b o e q (fun z => nomatch (show b ∈ ([] : List Addr) from z)) (fun z => nomatch z)
      | some y =>
        rcases ft.only b y q with ⟨_, _, ob, xs, z⟩ | ⟨⟨p, hp, z⟩, _⟩
        · rw [z] at q
          have g1 := (ft.held b _ q).1
          have g2 := (held' b _ (U.frzs b ob _ q)).1
          rw [e] at g1
          cases g1
          exact g2
        · rw [z, isTab_of hp] at nb
          cases nb
    refine ⟨rfl, ⟨fun b o e => ?_, fun b o e => ?_⟩, os, bare⟩
    · cases nb : isTab cs b with
      | false => exact .inl (old b o nb e)
      | true =>
        obtain ⟨p, hp, z⟩ := isTab_mem nb
        obtain ⟨more, hm⟩ := tab' p hp
        rw [z] at e ⊢
        rw [hT p hp] at e
        cases e
        exact .inr (.inl ⟨((hC p hp).tab (hT p hp)).isCodeTable, rfl, #[], more, rfl, by rw [Array.empty_append]; exact hm⟩)
    · cases nb : isTab cs b with
      | false => exact ⟨o, old b o nb e⟩
      | true =>
        obtain ⟨p, hp, z⟩ := isTab_mem nb
        obtain ⟨more, hm⟩ := tab' p hp
        rw [z]
        exact ⟨_, hm⟩
end Vf

set_option maxRecDepth 100000
set_option maxHeartbeats 4000000
/-! exceptions held as values -/
namespace Vf
open PySem PySem.Spec PyProof.Rows L2
section
open PySem.W PySem.Calls
variable {prog : Program} {w : World} {K : Frag} {x D : Addr} {ox : Obj} {od : Option Obj}
theorem bound_any {C : Addr} {nm : Str} {a g : Value} (c : (clsIn K C).isSome = true) (fa : findIn K (.ref C) nm = some (some a)) (fg : specialIn K a "__get__" = some (some g)) (ft : takesIn K a = some true) : findObj K C od nm = some (.bind g a) := by
  obtain ⟨cd, c⟩ := Option.isSome_iff_exists.mp c
  simp only [findObj, c, fa, fg, ft, Option.bind_some]
/-- what isinstance asks of the class of an exception -/
structure XC (K : Frag) (D : Addr) : Prop where
  ga : findIn K (.ref D) "__getattribute__" = some (some (.builtin "BaseException.__getattribute__"))
  gg : findIn K (.ref D) "__getattr__" = some none
  sb : subIn K (.ref D) (.type "BaseException") = some true
  hd : hasDictIn K D = true
  ca : findIn K (.ref D) "__class__" = some (some (.builtin "object.__class__"))
  cn : specialIn K (.builtin "object.__class__") "__get__" = some (some (.builtin "getset_descriptor.__get__"))
  ct : takesIn K (.builtin "object.__class__") = some true
  mo : mroIn K D (.type "object") = some true
theorem XC.cls {K : Frag} {D : Addr} (T : XC K D) : (clsIn K D).isSome = true := by
  obtain ⟨cd, e, _⟩ := any_some T.hd
  simp only [e, Option.isSome_some]
/-- its class, asked of the exception itself, whatever its dict holds -/
theorem own_class {A : Around} {E : Value → Shared → Prop} {s : Shared} {Q : Option Value → Shared → Prop} (T : XC K D) (X : K.In s.heap) (I : InstAt s.heap x ox D od) (q : Q (some (.ref D)) { s with toks := s.toks + 1 }) :
    wpAny (model prog w) A (getAttr? (.ref x) "__class__") Q E s := by
  obtain ⟨hp, gs, dr, tk, os⟩ := s
  have l0 := I.type (M := model prog w)
  have l1 := looks_findIn (M := model prog w) X T.ga
  have l2 := looks_findIn (M := model prog w) X T.gg
  have l3 := looks_find (M := model prog w) X I (bound_any (od := od) T.cls T.ca T.cn T.ct)
  have y1 : (onTheHeap (Value.ref D) && Value.builtin "BaseException.__getattribute__" == Value.builtin "object.__getattribute__") = false := by
    rw [show (Value.builtin "BaseException.__getattribute__" == Value.builtin "object.__getattribute__") = false from by decide +kernel, Bool.and_false]
  unfold getAttr?
  unfold getAttrBy?
  unfold getAttrBy
  refine wpAny_bind (wpAny_mkText (wpAny_bind ?_))
  refine wpAny_attempt (wpAny_holding (wpAny_bind (l0.at ?_)))
  refine wpAny_bind (l1.at ?_)
  show wpAny _ _ (if (onTheHeap (Value.ref D) && Value.builtin "BaseException.__getattribute__" == Value.builtin "object.__getattribute__") = true then _ else _) _ _ _
  rw [y1]
  rw [if_neg Bool.false_ne_true]
  unfold getAttrByItsOwn
  unfold hookBefore
  refine wpAny_bind ?_
  rw [if_pos (show onTheHeap (Value.ref D) = true from rfl)]
  refine l2.at (wpAny_bind (wpAny_attempt (wpAny_holding ?_)))
  unfold callGetattribute
  rw [show (false && onTheHeap (Value.builtin "BaseException.__getattribute__")) = false from rfl, if_neg Bool.false_ne_true]
  unfold boundAndCalled
  rw [PySem.F.excAttr_ValueError.ga.bind (.ref x)]
  refine wpAny_bind (wpAny_pure ?_)
  show wpAny _ _ (call (.builtin "BaseException.__getattribute__") [.ref x, .str "__class__" tk]) _ _ _
  refine wpAny_call (codeAny_call_builtin PySem.F.excAttr_ValueError.ga.plain PySem.F.entry_bexc_ga ?_)
  have sub : Looks (model prog w) hp (isInstance (.ref x) (.type "BaseException")) true := l0.andThen (looks_subIn X T.sb)
  refine @check_slot (model prog w) _ _ ⟨hp, gs, dr, tk + 1, os⟩ "BaseException.__getattribute__" "BaseException" "__getattribute__" (.ref x) [.str "__class__" tk] [] _ (by decide +kernel) (by decide +kernel) sub
    (PySem.F.args_bexc_ga (.ref x) (.str "__class__" tk)) ?_
  unfold Builtin.«object.__getattribute__»
  refine wpAny_bind ?_
  refine wpAny_of_eq (a := ((Value.ref x : Value), [Value.str "__class__" tk])) (by first | rfl | (simp only [slotArgs]; rfl)) ?_
  refine wpAny_bind (wpAny_pure (wpAny_bind (l0.at ?_)))
  refine wpAny_bind (l3.at ?_)
  show wpAny _ _ (holding [Value.builtin "object.__class__"] (call (.builtin "getset_descriptor.__get__") [.builtin "object.__class__", .ref x, .ref D]) >>= ret) _ _ _
  refine wpAny_bind (wpAny_holding (wpAny_call (class_get (s := ⟨hp, gs, dr, tk + 1, os⟩) (od := od) X I T.mo ?_)))
  refine wpAny_pure ?_
  show wpAny _ _ (handedOut (.ref D)) _ _ _
  rw [handedOut_of (v := .ref D) rfl]
  first
    | exact wpAny_pure (wpAny_pure q)
    | exact wpAny_pure q
    | exact wpAny_pure (wpAny_bind (wpAny_pure (wpAny_pure q)))
theorem kit_own (T : XC K D) : KitX K (.ref x) (.ref D) (fun h => InstAt h x ox D od) := by
  obtain ⟨cd, e, _⟩ := any_some T.hd
  have at_ : ∃ c d sl, K.lookup D = some ⟨c, d, .cls cd, sl⟩ := by
    unfold clsIn at e
    split at e
    · rename_i ho
      cases e
      exact ⟨_, _, _, ho⟩
    · cases e
  obtain ⟨c, d, sl, ho⟩ := at_
  refine ⟨fun _ _ _ I => I.type, fun _ _ X _ => ?_, fun h tp dd its n sl' X ht => ?_, fun X I q => own_class T X I q⟩
  · intro A Q E s k q
    unfold isType
    unfold loadHead
    exact wpAny_bind (wpAny_loadPart (k _ _ (X _ _ ho)) (wpAny_pure q))
  · cases z : (Value.ref D == Value.ref tp) with
    | false => rfl
    | true =>
      have e2 : D = tp := Value.ref.inj (beq_iff_eq.mp z)
      have z2 := X _ _ ho
      rw [e2, ht] at z2
      cases z2
end

/-- an exception of the class at C stands at a as a value; what it keeps -/
def XAt (H : Hp) (a C : Addr) : Option (List (Str × V)) → Prop
  | none => H a = some (ExO (.ref C) a)
  | some fs => ∃ d, H a = some (exo a C (some d)) ∧ H d = some (exd d fs)
theorem XAt.same {H H' : Hp} {a C : Addr} {o : Option (List (Str × V))} (s : Same H H') (h : XAt H a C o) : XAt H' a C o := by
  cases o with
  | none => exact s _ _ h
  | some fs =>
    obtain ⟨d, h1, h2⟩ := h
    exact ⟨d, s _ _ h1, s _ _ h2⟩
section
variable {X : Cx} {pins : List (Addr × Obj)} {σ : L2.St} {H : Hp} {s : Shared}
theorem XAt.inst {a C : Addr} {o : Option (List (Str × V))} (I : Inv X pins σ H s) (h : XAt H a C o) : ∃ oe od, PySem.W.InstAt s.heap a oe C od := by
  cases o with
  | none =>
    obtain ⟨⟨oe, vs, e1, e2, e3, _⟩, _⟩ := I.hok a _ h
    exact ⟨oe, none, e1, e2.1, by unfold PySem.W.notCls; rw [e3] <;> rfl, by rw [e2.2]; trivial⟩
  | some fs =>
    obtain ⟨d, h1, h2⟩ := h
    obtain ⟨t1, e1⟩ := exo_at I.hok h1
    obtain ⟨mA, hn, _⟩ := exd_at I.hok h2
    obtain ⟨od, eo, _⟩ := lookIn_ns hn
    exact ⟨_, some od, e1, rfl, rfl, eo⟩
/-- isinstance of an exception that is held as a value -/
theorem call_isiX : CallR X (.builtin "isinstance") (fun xs H Q => ∃ (a C : Addr) (o : Option (List (Str × V))) (c : V) (u : Value) (b : Bool), xs = [.ref a, c] ∧ ClsV c u ∧ XAt H a C o ∧ XC X.K C ∧ PySem.W.kitOne X.K (.ref C) u = some b ∧ Q (.bl b) H) := by
  intro pins s σ H xs us Q I r h
  obtain ⟨a, C, o, c, u, b, rfl, k, x, T, e, q⟩ := h
  obtain ⟨u1, u2, rfl, r1, r2⟩ := vals2 r
  have e2 := k.eq r2
  subst e2
  obtain rfl : u1 = Value.ref a := r1
  obtain ⟨oe, od, J⟩ := x.inst I
  exact PySem.W.kia_one (kit_own T) I.kIn J e (fun z => nomatch z) fun tk => ⟨.bl b, H, I.tok tk, rfl, q⟩
/-- e.f of such an exception -/
def tXv (K : PySem.W.Frag) (f : Str) (te : TE) : TE := fun σ H Q => te σ H fun y H1 => ∃ (a C : Addr) (fs : List (Str × V)) (v : V), y = .ref a ∧ XAt H1 a C (some fs) ∧ XC K C ∧ PySem.W.findIn K (.ref C) f = some none ∧ fs.lookup f = some v ∧ Q v H1
theorem pe_xv {e : Expr} {te : TE} {pos : Pos} {n : Str} (he : PE X e te) (hb : attributeBase e n X.env (eval e X.env) = eval e X.env := by rfl) : PE X (.Attribute e n pos) (tXv X.K n te) := by
  refine ⟨fun pins s σ H Q I h => attr_of hb (thn (he.run pins s σ H _ I h) fun u s1 ⟨y, H1, I1, ry, a, C, fs, v, ey, xa, T, hno, hl, q⟩ => ?_)⟩
  subst ey
  obtain rfl : u = Value.ref a := ry
  obtain ⟨d, h1, h2⟩ := xa
  obtain ⟨t1, e1⟩ := exo_at I1.hok h1
  obtain ⟨mA, hn, rel⟩ := exd_at I1.hok h2
  obtain ⟨od, eo, lk⟩ := lookIn_ns hn
  obtain ⟨v', hu, ru⟩ := RelO.some_of (v := v) (o := mA n) (by rw [← hl]; exact rel n)
  exact HandSPX.exc_get (ox := { cls := .ref C, dict := some d, data := .fields #[.ref t1, .none, .none, .none, .bool false, .none] }) (od := some od) I1.kIn ⟨e1, rfl, rfl, eo⟩ T.ga T.gg T.sb (PySem.W.findObj_own T.hd hno rfl (by rw [lk, hu])) (handed_of ru) ⟨v, H1, I1.tok _, ru, q⟩
/-- C(e, ..), as a value, its own __init__ keeping sp -/
def tMkV (C : Addr) (sp : Sp) (ta : TA) : TE := fun σ H Q => ta σ H fun vs H1 => vs.length ≤ 1000 ∧ ∀ a, H1 a = none → sp (.ref a :: vs) (upd H1 a (exo a C none)) (fun v H2 => v = .non ∧ Q (.ref a) H2) E0
theorem pe_mkv {x : Str} {C fI : Addr} {k : Nat} {fd : FuncData} {ps : List Str} {sp : Sp} {e : Expr} {es : List Expr} {ta : TA} {p pos : Pos} (T : OexC X.K C) (iC : PySem.W.findIn X.K (.ref C) "__init__" = some (some (.ref fI))) (tI : PySem.W.typeIn X.K (.ref fI) = some (.type "function"))
    (F : FnOk X.prog X.w X.K X.mg X.base CX0 k fI fd ps sp) (hr : Room (k + 1) X.A) (hb : Binds X.K fd ps []) (hg : Gl X x) (hm : X.mg x = some (.ref C)) (ha : PA X (e :: es) ta)
    (hdb : (x == ("__debug__" : Str)) = false := by decide) (he : starEach (e :: es) X.env = (false, eval e X.env) :: starEach es X.env := by rfl) (hpl : (backTo pos (starEach es X.env)).any (·.1) = false := by rfl) :
    PE X (.Call (.Name x p) (e :: es) [] pos) (tMkV C sp ta) := by
  refine ⟨fun pins s σ H Q I h => wpAny_Call_Name_kw (ld_glob I hg hm ?_ hdb)⟩
  obtain ⟨nm, q, N, bs, bm, sn, sub, ab, col, dd, k0, k1, k2, k3, k5, hC, hbm⟩ := T.cls
  refine PySem.W.callWith_K (h₀ := X.base) I.ok.mod.kin T.kC (thn (ha.run pos pins s σ H _ I h) fun us s1 ⟨vs, H1, I1, rv, hz, g⟩ => ⟨I1.kIn, ?_⟩) he hpl
  show wpAny _ _ (call (.ref C) us) _ _ _
  obtain ⟨hp, gs, dr, tk, os⟩ := s1
  have new : H1 (hp.objs.size + 1) = none := I1.hok.fresh (Nat.le_succ _)
  have g := g (hp.objs.size + 1) new
  let h2 := (hp.push (PySem.W.kdv_tup us)).push (PySem.HandSPX.excO C hp.objs.size)
  have at2 : h2.get? (hp.objs.size + 1) = some (PySem.HandSPX.excO C hp.objs.size) := by
    show ((hp.push (PySem.W.kdv_tup us)).push (PySem.HandSPX.excO C hp.objs.size)).get? (hp.objs.size + 1) = _
    heap_get
  have I2 : Inv X pins σ (upd H1 (hp.objs.size + 1) (exo (hp.objs.size + 1) C none)) ⟨h2, gs, dr, tk, os⟩ :=
    I1.laid (t' := tk) (a := hp.objs.size + 1) (h' := h2) (fun b o z => Heap.get?_push_of_some _ (Heap.get?_push_of_some _ z)) (Nat.le_succ _) (exo_ok at2)
  have r2 : Vals (V.ref (hp.objs.size + 1) :: vs) (Value.ref (hp.objs.size + 1) :: us) := .cons rfl rv
  have ln : (Value.ref (hp.objs.size + 1) :: us ++ []).length = ps.length := by
    rw [List.append_nil, ← r2.length]
    exact F.len _ _ _ _ g
  have hus : us.length ≤ sizeLine := by
    rw [← Paired.length rv, sizeLine_eq]
    omega
  have bd := hb ⟨h2, gs, dr, tk, os⟩ (Value.ref (hp.objs.size + 1) :: us) I2.kIn ln
  rw [List.append_nil] at bd
  refine wpAny_call (PySem.HandSPX.call_own PySem.F.excBase_ValueError (fun Y => PySem.HandSPX.refsVE_contains Y bm hbm) (I1.kIn _ _ hC) (PySem.W.looks_findIn I1.kIn iC) (fun self => PySem.W.bind_fn I1.kIn self tI) hus ?_)
  refine codeAny_mono (F.run _ X.stack _ _ _ _ _ _ E0 (hr.make C us []) (I2.env0.make C us []) bd r2 g) fun r s' z => ?_
  match r, z with
  | .error er, z => exact z.elim
  | .ok .next, z => exact z.elim
  | .ok .brk, z => exact z.elim
  | .ok .cont, z => exact z.elim
  | .ok (.ret u), ⟨v, H2, o2, b2, un2, ok2, ru, ev, q2⟩ =>
    subst ev
    refine ⟨ru, ?_⟩
    exact I2.after ⟨.ref (hp.objs.size + 1), H2, o2, b2, un2, ok2, rfl, q2⟩
/-- C(), a class without an __init__ of its own -/
theorem pe_mk0 {x : Str} {C : Addr} {p pos : Pos} (q : PySem.W.excIn X.K C [.type "ValueError", .type "Exception", .type "BaseException", .type "object"] "ValueError.__new__" = true) (kC : PySem.W.keepIn X.K (.ref C) = true) (hg : Gl X x) (hm : X.mg x = some (.ref C))
    (hdb : (x == ("__debug__" : Str)) = false := by decide) : PE X (.Call (.Name x p) [] [] pos) (fun _ H Q => ∀ a, H a = none → Q (.ref a) (upd H a (ExO (.ref C) a))) := by
  refine ⟨fun pins s σ H Q I h => wpAny_Call_Name_kw (ld_glob I hg hm (PySem.W.callWith_K0 I.kIn kC ?_) hdb)⟩
  obtain ⟨hp, gs, dr, tk, os⟩ := s
  obtain ⟨bm, N, nm, qn, bs, hdct, sn, sub, ab, col, dd, k0, k1, k2, k3, k5, mN, hC, hN, hni, T⟩ := exc_obj I.kIn q
  refine wpAny_call_exc_subT PySem.F.excBase_ValueError T hC hN hni (fun h' a M => ?_) (by rw [sizeLine_eq]; decide)
  have n : H a = none := I.hok.gone M.new
  obtain ⟨t, e, _, _⟩ := M.there
  exact ⟨.ref a, upd H a (ExO (.ref C) a), I.laidN M.keeps M.new n (exO_ok e ⟨rfl, rfl⟩ rfl rfl rfl (by show 4 < 6; decide)), rfl, h a n⟩
end
end Vf
namespace Vf
open PySem PySem.Spec PyProof.Rows L2
def xcB (K : PySem.W.Frag) (D : Addr) : Bool :=
  decide (PySem.W.findIn K (.ref D) "__getattribute__" = some (some (.builtin "BaseException.__getattribute__"))) && (decide (PySem.W.findIn K (.ref D) "__getattr__" = some none) && (decide (PySem.W.subIn K (.ref D) (.type "BaseException") = some true) &&
  (PySem.W.hasDictIn K D && (decide (PySem.W.findIn K (.ref D) "__class__" = some (some (.builtin "object.__class__"))) && (decide (PySem.W.specialIn K (.builtin "object.__class__") "__get__" = some (some (.builtin "getset_descriptor.__get__"))) &&
  (decide (PySem.W.takesIn K (.builtin "object.__class__") = some true) && decide (PySem.W.mroIn K D (.type "object") = some true)))))))
theorem xcB_ok {K : PySem.W.Frag} {D : Addr} (h : xcB K D = true) : XC K D := by
  obtain ⟨h1, h⟩ := Bool.and_eq_true_iff.mp h
  obtain ⟨h2, h⟩ := Bool.and_eq_true_iff.mp h
  obtain ⟨h3, h⟩ := Bool.and_eq_true_iff.mp h
  obtain ⟨h4, h⟩ := Bool.and_eq_true_iff.mp h
  obtain ⟨h5, h⟩ := Bool.and_eq_true_iff.mp h
  obtain ⟨h6, h⟩ := Bool.and_eq_true_iff.mp h
  obtain ⟨h7, h8⟩ := Bool.and_eq_true_iff.mp h
  exact ⟨of_decide_eq_true h1, of_decide_eq_true h2, of_decide_eq_true h3, h4, of_decide_eq_true h5, of_decide_eq_true h6, of_decide_eq_true h7, of_decide_eq_true h8⟩
end Vf

set_option maxRecDepth 100000
set_option maxHeartbeats 4000000
/-! sizes of texts of data; walks -/
namespace Vf
open PySem PySem.Spec PyProof.Rows L2
/-- good data: shallow, shown in few signs -/
structure Gd (d : PyData) : Prop where
  sh : d.showable = true
  dp : d.depth ≤ 10
  ln : d.shown.length ≤ 100000
theorem gd_none : Gd .none := ⟨rfl, by decide, by simp only [PyData.shown]; decide⟩
theorem gd_bool (b : Bool) : Gd (.bool b) := ⟨rfl, by simp [PyData.depth], by cases b <;> (simp only [PyData.shown]; decide)⟩
theorem log_small {z : Int} (h : z.natAbs < 2 ^ 1920) : z.natAbs.log2 < 1920 := by
  by_cases e : z.natAbs = 0
  · rw [e]
    decide
  · exact (Nat.log2_lt e).mpr h
theorem gd_int {z : Int} (h : z.natAbs < 2 ^ 1920) : Gd (.int z) := by
  have l := log_small h
  refine ⟨by simp only [PyData.showable, l, decide_true], by simp [PyData.depth], ?_⟩
  simp only [PyData.shown]
  exact Nat.le_trans (int_text_len_1921 l) (by decide)
theorem gd_str {x : Str} (h : ∀ c ∈ x.cps.toList, c < 16 ^ 8) (hl : x.length ≤ 9000) : Gd (.str x) := by
  refine ⟨rfl, by simp [PyData.depth], ?_⟩
  simp only [PyData.shown]
  have q := StrLaws.reprText_len x h
  omega
theorem int_codes (z : Int) : ∀ c ∈ (Str.ofString (toString z)).cps.toList, c < 16 ^ 8 := fun c h => by
  by_cases e : c < 58
  · have : (58 : Nat) < 16 ^ 8 := by decide
    omega
  · exact absurd h (int_text_free' c ⟨by omega, by omega⟩ z)
theorem sum_le_of {l : List Nat} {m : Nat} (h : ∀ x ∈ l, x ≤ m) : l.sum ≤ l.length * m := by
  induction l with
  | nil => simp
  | cons a r ih =>
    have h1 := h a (List.mem_cons_self ..)
    have h2 := ih fun x hx => h x (List.mem_cons_of_mem _ hx)
    rw [List.sum_cons, List.length_cons, Nat.add_mul]
    omega
theorem shownAll_map : ∀ ds : List PyData, PyData.shownAll ds = ds.map PyData.shown
  | [] => by simp only [PyData.shownAll, List.map_nil]
  | d :: r => by simp only [PyData.shownAll, List.map_cons, shownAll_map r]
theorem showableAll_of : ∀ {ds : List PyData}, (∀ d ∈ ds, d.showable = true) → PyData.showableAll ds = true
  | [], _ => by simp only [PyData.showableAll]
  | d :: r, h => by
    simp only [PyData.showableAll, h d (List.mem_cons_self ..), showableAll_of fun x hx => h x (List.mem_cons_of_mem _ hx), Bool.and_self]
theorem depthAll_of {m : Nat} : ∀ {ds : List PyData}, (∀ d ∈ ds, d.depth ≤ m) → PyData.depthAll ds ≤ m
  | [], _ => by simp only [PyData.depthAll]; exact Nat.zero_le _
  | d :: r, h => by
    simp only [PyData.depthAll]
    exact Nat.max_le.mpr ⟨h d (List.mem_cons_self ..), depthAll_of fun x hx => h x (List.mem_cons_of_mem _ hx)⟩
/-- few data, each shown in at most m signs -/
theorem seq_len {ds : List PyData} {m : Nat} (h : ∀ d ∈ ds, d.shown.length ≤ m) : (((PyData.shownAll ds).map (·.length)).sum ≤ ds.length * m) ∧ (PyData.shownAll ds).length = ds.length := by
  rw [shownAll_map]
  refine ⟨?_, by rw [List.length_map]⟩
  have q := sum_le_of (l := ((ds.map PyData.shown).map (·.length))) (m := m) (fun x hx => by
    obtain ⟨s, hs, e⟩ := List.mem_map.mp hx
    obtain ⟨d, hd, e2⟩ := List.mem_map.mp hs
    rw [← e, ← e2]
    exact h d hd)
  rw [List.length_map, List.length_map] at q
  exact q
theorem small_seq {ds : List PyData} {n m : Nat} (hn : ds.length ≤ n) (h1 : ∀ d ∈ ds, d.showable = true) (h2 : ∀ d ∈ ds, d.depth ≤ 60) (h3 : ∀ d ∈ ds, d.shown.length ≤ m) (hz : n * m + 2 * n + 3 ≤ 16777216) : small (.list ds) ∧ small (.tuple ds) := by
  obtain ⟨a, b⟩ := seq_len h3
  have c : ds.length * m ≤ n * m := Nat.mul_le_mul_right _ hn
  have d1 := depthAll_of h2
  refine ⟨⟨by simp only [PyData.showable]; exact showableAll_of h1, by simp only [PyData.depth]; omega, ?_⟩, by simp only [PyData.showable]; exact showableAll_of h1, by simp only [PyData.depth]; omega, ?_⟩
  · simp only [PyData.shown]
    have q := listText_len_le (PyData.shownAll ds)
    rw [sizeLine_eq]
    omega
  · simp only [PyData.shown]
    have q := tupleText_len_le (PyData.shownAll ds)
    rw [sizeLine_eq]
    omega
theorem gd_seq {ds : List PyData} {n m : Nat} (hn : ds.length ≤ n) (h1 : ∀ d ∈ ds, d.showable = true) (h2 : ∀ d ∈ ds, d.depth ≤ 9) (h3 : ∀ d ∈ ds, d.shown.length ≤ m) (hz : n * m + 2 * n + 3 ≤ 100000) : Gd (.list ds) ∧ Gd (.tuple ds) := by
  obtain ⟨a, b⟩ := seq_len h3
  have c : ds.length * m ≤ n * m := Nat.mul_le_mul_right _ hn
  have d1 := depthAll_of h2
  refine ⟨⟨by simp only [PyData.showable]; exact showableAll_of h1, by simp only [PyData.depth]; omega, ?_⟩, by simp only [PyData.showable]; exact showableAll_of h1, by simp only [PyData.depth]; omega, ?_⟩
  · simp only [PyData.shown]
    have q := listText_len_le (PyData.shownAll ds)
    omega
  · simp only [PyData.shown]
    have q := tupleText_len_le (PyData.shownAll ds)
    omega
theorem small_of_gd {ds : List PyData} (hn : ds.length ≤ 100) (h : ∀ d ∈ ds, Gd d) : small (.list ds) ∧ small (.tuple ds) :=
  small_seq hn (fun d hd => (h d hd).sh) (fun d hd => Nat.le_trans (h d hd).dp (by decide)) (fun d hd => (h d hd).ln) (by decide)
theorem Gd.small {d : PyData} (h : Gd d) : small d := ⟨h.sh, Nat.le_trans h.dp (by decide), Nat.le_trans h.ln (by rw [sizeLine_eq]; decide)⟩
theorem gd_dict1 {x : Str} {z : Int} (hx : ∀ c ∈ x.cps.toList, c < 16 ^ 8) (hl : x.length ≤ 1000) (h : z.natAbs < 2 ^ 1920) : Gd (.dict [(.str x, .int z)]) := by
  have l := log_small h
  refine ⟨by simp only [PyData.showable, PyData.showableKv, l, decide_true, Bool.and_self], by simp only [PyData.depth, PyData.depthKv]; decide, ?_⟩
  simp only [PyData.shown, PyData.shownKv]
  have q := dictText_len_le [reprText x ++ ": " ++ (Str.ofString (toString z))]
  have r := StrLaws.reprText_len x hx
  have s := int_text_len_1921 l
  simp only [List.map_cons, List.map_nil, List.sum_cons, List.sum_nil, List.length_cons, List.length_nil, strLen_append] at q
  have t : (Str.ofString ": ").length = 2 := by decide +kernel
  refine Nat.le_trans q ?_
  have t2 : ((": " : String) : Str).length = 2 := t
  omega

/-- for i, x in enumerate(a list) -/
theorem for_enumL {K : PySem.W.Frag} {a : Addr} {xs : List V} {g : TG} {tb : TS} {D : Ends} {σ : L2.St} {H : Hp} (Pv : Nat → L2.St → Hp → Prop) (h0 : Pv 0 σ H) (hq : ∀ i σ H, Pv i σ H → SqL K H a xs)
    (hs : ∀ (i : Nat) (x : V) (T : Addr) (σ : L2.St) (H : Hp), xs[i]? = some x → Pv i σ H → H T = none → g (.ref T) σ (upd H T (.tup [.int (i : Nat), x])) fun σ2 H2 => tb { D with nx := Pv (i + 1), ct := Pv (i + 1), bk := D.nx } σ2 H2) (hd : ∀ σ H, Pv xs.length σ H → D.nx σ H) :
    ∃ W : Nat → Nat → L2.St → Hp → Prop, (∃ m, W 0 m σ H) ∧ ∀ i m σ H, W i m σ H →
      ((Ite K a).stop i H ∧ D.nx σ H) ∨ ((Ite K a).go i H ∧ ∃ N : L2.St → Hp → Prop, (∀ σ' H', N σ' H' → ∃ m', m' < m ∧ W (i + 1) m' σ' H') ∧ ∀ v H', (Ite K a).yld i H v H' → g v σ H' fun σ2 H2 => tb { D with nx := N, ct := N, bk := D.nx } σ2 H2) := by
  refine ⟨fun i m σ H => m + i = xs.length ∧ Pv i σ H, ⟨xs.length, rfl, h0⟩, fun i m σ H ⟨e, p⟩ => ?_⟩
  have q := hq i σ H p
  match m, e with
  | 0, e =>
    have e2 : i = xs.length := by omega
    rw [e2] at p ⊢
    exact .inl ⟨⟨xs, q, Nat.le_refl _⟩, hd σ H p⟩
  | m + 1, e =>
    have lt : i < xs.length := by omega
    refine .inr ⟨⟨xs, xs[i], q, List.getElem?_eq_getElem lt⟩, Pv (i + 1), fun σ' H' p' => ⟨m, Nat.lt_succ_self m, by omega, p'⟩, fun v H' y => ?_⟩
    obtain ⟨T, x, e1, n, e2, hx⟩ := y
    rw [e1, e2]
    exact hs i x T σ H (hx xs q) p n
end Vf

set_option maxRecDepth 100000
set_option maxHeartbeats 4000000
/-! the end of a law's row, from its promise where no guard stands; what the top has written, read off -/
namespace Vf
open PySem PySem.Spec PyProof.Rows L2
/-- what is known of the law's def at the heap behind the top -/
def LawG (l : PySem.W.OpenLaw) (w : World) (K : PySem.W.Frag) (C : CXT) (k n : Nat) (x : Str) (mg : Str → Option Value) (fa : Addr) (h : Heap) : Prop :=
  ∃ (fd : FuncData) (cs : List (Addr × Addr)) (sp : Sp), (∀ p ∈ cs, h.get? p.2 = some { cls := .none, data := .fields #[] }) ∧ (∀ p ∈ cs, K.lookup p.2 = none) ∧ (∀ p ∈ cs, PySem.W.CodeHd h p.1 p.2) ∧
    (∀ (s : Shared) (u : Value), BindsTo s fd ⟨[u], []⟩ [(x, u)]) ∧
    (∀ (H : Hp) (a : Addr) (ns : List Int), ns.length ≤ n → (∀ z ∈ ns, Builtin.Int.intBits z ≤ 1048576) → (∀ p ∈ cs, H p.2 = some (.tbl #[])) → SqL K H a (ns.map V.int) → sp [.ref a] H (fun v _ => v = .bl true) E0) ∧
    ∀ b : Heap, K.In b → b.Ns mainGlobals mg → M1 b → (∀ p ∈ cs, LamX.TabB b mg p.1 p.2) → FnG l.prog w K mg b C k fa fd [x] sp
theorem walkG {l : PySem.W.OpenLaw} {n k : Nat} {q : Program} {loose : List Str} {XP : (Str → Option Value) → Heap → Prop} {YP : World → Heap → Prop} {d : DefRec} {K : Params → PySem.W.Frag} {C : World → CXT} {x : Str}
    (hn : l.most = some n) (hn2 : n ≤ sizeLine) (hdf : d.params.defaults = []) (hr : Room k callerA) (hi : importsNone q = true) (hY : ∀ (w : World) (h : Heap), YP w h → (K w.params).In h)
    (F : ∀ (w : World) (mg : Str → Option Value) (fa : Addr) (h : Heap), YP w h → (K w.params).In h → h.Ns mainGlobals mg → mg d.name = some (.ref fa) → LawG l w (K w.params) (C w) k n x mg fa h)
    (hE : ∀ (w : World) (H : Hp) (s : Shared) (e : Value) (s' : Shared), C w [] H s E0 e s' → False) : PySem.W.WalkO q loose XP YP l.row.toRowW d [] (fun f vs => PySem.call f vs) := by
  refine Att.attach_callB hn hdf fun w s0 s1 mg mb fa o pm cd doc a vs ns G Y ho hd hcd hmg hobj hints hlen hbits hg => ?_
  have X := hY w _ Y
  obtain ⟨fd, cs, sp, hT, nT, hC, bind, hsp, hF⟩ := F w mg fa _ Y X G.T.g hmg
  have m1 : M1 s1.heap := by
    obtain ⟨mm, ⟨o, es, ep, e, dt, _⟩, _⟩ := (G.T.seer hi).mods
    exact ⟨o, es, ep, e, dt⟩
  exact law_enter X G.T.g G.T.b G.T.builtins G.T.nolimit hg hT nT hC G.T.bmain m1 hobj hints (Nat.le_trans hlen hn2) hr hF bind (fun H h1 h2 => hsp H a ns hlen hbits h1 h2) fun H e s' => hE w H s1 e s'

/-- a def of the text, as the written part tells it -/
structure Wr (K : PySem.W.Frag) (qual x : Str) (st : Stmt) (f : Addr) : Prop where
  ex : ∃ fd, Fun K x qual st f fd
theorem wr_mk {K : PySem.W.Frag} {x qual : Str} {st : Stmt} {f : Addr} {oc : Value} {od an : Option Addr} {osl : Array (Option Value)} {kV doc pm cdv ct : Value} (l : K.lookup f = some ⟨oc, od, .func (PySem.W.fnOf x qual (defArgs st) (defBody st) (defScope st) .none kV doc pm an cdv ct), osl⟩)
    (c : PySem.W.codeIn K cdv qual = true) (k : PySem.W.keepIn K (.ref f) = true) : Wr K qual x st f := ⟨_, fun_mk l c k⟩
/-- an exception class, its facts in one look -/
def oexB (K : PySem.W.Frag) (C : Addr) : Bool :=
  decide (PySem.W.findIn K (.ref C) "__setattr__" = some (some (.builtin "object.__setattr__"))) && (decide (PySem.W.subIn K (.ref C) (.type "BaseException") = some true) &&
    (decide (PySem.W.typeIn K (.ref C) = some (.type "type")) && PySem.W.keepIn K (.ref C)))
theorem oexB_ok {K : PySem.W.Frag} {C : Addr} (h : oexB K C = true) (c : ∃ nm q N bs bm sn sub ab col dd k0 k1 k2 k3 k5, K.lookup C = some (excClassObj nm q C N bs bm true sn sub ab col dd k0 k1 k2 k3 k5 "ValueError.__new__") ∧ PySem.HandSPX.refsVE bm = true) : OexC K C := by
  obtain ⟨h1, h⟩ := Bool.and_eq_true_iff.mp h
  obtain ⟨h2, h⟩ := Bool.and_eq_true_iff.mp h
  obtain ⟨h3, h4⟩ := Bool.and_eq_true_iff.mp h
  exact ⟨c, of_decide_eq_true h1, of_decide_eq_true h2, of_decide_eq_true h3, h4⟩
end Vf

set_option maxRecDepth 100000
set_option maxHeartbeats 4000000
/-! the end of a row whose law makes lambdas: the tables of defs -/
namespace Vf
open PySem PySem.Spec PyProof.Rows L2
/-- the tables of the text's own defs are empty, their code objects as they come -/
def TabsG (q : Program) (K : PySem.W.Frag) (mg : Str → Option Value) (h : Heap) : Prop :=
  ∀ (x : Str) (f c Pt : Addr) (o : Obj) (fd : FuncData) (e : Value) (dd : Option Addr) (vs : Array Value) (sl : Array (Option Value)), ((recsOf q).any fun e => e.name == x) = true → mg x = some (.ref f) → K.lookup f = some o → o.data = .func fd → fd.code = .ref c →
    K.lookup c = some ⟨e, dd, .fields vs, sl⟩ → vs[11]? = some (.ref Pt) → PySem.W.CodeHd h c Pt ∧ h.get? Pt = some { cls := .none, data := .fields #[] }
theorem walkT {l : PySem.W.OpenLaw} {n k : Nat} {q : Program} {loose : List Str} {XP : (Str → Option Value) → Heap → Prop} {YP : World → Heap → Prop} {d : DefRec} {K : Params → PySem.W.Frag} {C : World → CXT} {x : Str}
    (hn : l.most = some n) (hn2 : n ≤ sizeLine) (hdf : d.params.defaults = []) (hr : Room k callerA) (hi : importsNone q = true) (hY : ∀ (w : World) (h : Heap), YP w h → (K w.params).In h)
    (F : ∀ (w : World) (mg : Str → Option Value) (fa : Addr) (h : Heap), YP w h → (K w.params).In h → h.Ns mainGlobals mg → mg d.name = some (.ref fa) → TabsG q (K w.params) mg h → LawG l w (K w.params) (C w) k n x mg fa h)
    (hE : ∀ (w : World) (H : Hp) (s : Shared) (e : Value) (s' : Shared), C w [] H s E0 e s' → False) : PySem.W.WalkO q loose XP YP l.row.toRowW d [] (fun f vs => PySem.call f vs) := by
  refine Att.attach_callB hn hdf fun w s0 s1 mg mb fa o pm cd doc a vs ns G Y ho hd hcd hmg hobj hints hlen hbits hg => ?_
  have X := hY w _ Y
  have tabs : TabsG q (K w.params) mg s1.heap := fun x f c Pt o1 fd1 e dd vs1 sl hrec k0 k1 k2 k3 k4 k5 => by
    obtain ⟨dL, hm, hn1⟩ := List.any_eq_true.mp hrec
    have hn2 : dL.name = x := beq_iff_eq.mp hn1
    obtain ⟨a', o', fd', c', P', h1, h2, h3, h4, h5, h6⟩ := G.T.tab dL hm
    rw [hn2, k0] at h1
    cases h1
    have g1 := X _ _ k1
    rw [g1] at h2
    cases h2
    rw [k2] at h3
    cases h3
    rw [k3] at h4
    cases h4
    have h6' := h6
    obtain ⟨⟨oc, vc, e1, _, e3, e4⟩, hP⟩ := h6'
    have g2 := X _ _ k4
    rw [g2] at e1
    cases e1
    cases e3
    rw [k5] at e4
    cases e4
    exact ⟨PySem.W.CodeHd.of h5 h6, hP⟩
  obtain ⟨fd, cs, sp, hT, nT, hC, bind, hsp, hF⟩ := F w mg fa _ Y X G.T.g hmg tabs
  have m1 : M1 s1.heap := by
    obtain ⟨mm, ⟨o, es, ep, e, dt, _⟩, _⟩ := (G.T.seer hi).mods
    exact ⟨o, es, ep, e, dt⟩
  exact law_enter X G.T.g G.T.b G.T.builtins G.T.nolimit hg hT nT hC G.T.bmain m1 hobj hints (Nat.le_trans hlen hn2) hr hF bind (fun H h1 h2 => hsp H a ns hlen hbits h1 h2) fun H e s' => hE w H s1 e s'
end Vf

set_option maxRecDepth 100000
set_option maxHeartbeats 4000000
/-! rules: several clauses with a name each; // by any great int -/
namespace Vf
open PySem PySem.Spec PyProof.Rows L2
/-- what each clause «except c as n» wishes, n in slot i, from the first one on -/
def wEach (K : PySem.W.Frag) (i : Nat) (Wo : WX) (D : Ends) : List (Value × (Addr → Value → Option Addr → TS)) → WX
  | [] => Wo
  | (c, ts) :: r => wAs K c i ts (wEach K i Wo D r) D
inductive Each (X : Cx) (i : Nat) : List ExceptHandler → List (Value × (Addr → Value → Option Addr → TS)) → Prop
  | nil : Each X i [] []
  | cons {x n : Str} {c : Value} {ts : Addr → Value → Option Addr → TS} {b : Stmt} {bs : List Stmt} {p q : Pos} {hds : List ExceptHandler} {l : List (Value × (Addr → Value → Option Addr → TS))} (nm : Names X x c) (at_ : X.N[i]? = some n) (lo : X.env.kindOf n = some .local)
      (su : ∀ (a : Addr) (oe : Obj) (cls : Value) (d : Option Addr) (pn : List (Addr × Obj)), Zc cls d oe → (∃ vs, oe.data = .fields vs) → PSs (X.suite a ((a, oe) :: pn)) (b :: bs) (ts a cls d)) (t : Each X i hds l) :
      Each X i (.ExceptHandler (some (.Name x p)) (some n) (b :: bs) q :: hds) ((c, ts) :: l)
section
variable {X : Cx} {i : Nat} {body : List Stmt} {h1 : ExceptHandler} {hs : List ExceptHandler} {l : List (Value × (Addr → Value → Option Addr → TS))} {pos : Pos} {tb : WX → TS} {Wo : WX}
/-- try: body / except .. as n: .. / except .. as n: .. -/
theorem ps_try_each (st : X.stack = X.env :: X.outer) (fr : X.env.frame = some X.env.locals) (nd : X.N.Nodup) (tk : Takes X Wo)
    (bd : ∀ (W : WX) (pn : List (Addr × Obj)) (xe : Value → Shared → Prop), Takes (X.tr pn xe) W → PassesOwn (model X.prog X.w) X.A X.env xe → PSs (X.tr pn xe) body (tb W)) (hd : Each X i (h1 :: hs) l) :
    PS X (.Try body (h1 :: hs) [] [] pos) (fun D σ H => tb (wEach X.K i Wo D l) D σ H) := by
  refine ⟨fun pins s σ H D I h => wpAny_Try_except ?_⟩
  have ok := I.ok
  have A1 : X.A.frames = some (X.env :: X.outer) := ok.frames.trans (congrArg some st)
  have run := (bd (wEach X.K i Wo D l) (X.pn ++ pins) (fun e s1 => wpAny (model X.prog X.w) X.A (noteFrame e X.env) (fun _ s2 => wpAny (model X.prog X.w) X.A (setFlight e none) (fun _ s3 => wpAny (model X.prog X.w) X.A (handleBy e X.env (h1 :: hs)) (SP X pins D) X.xe s3) X.xe s2) X.xe s1)
    (fun u s' xx => ?_) PassesOwn.looking).run [] s σ H D (I.toTry _) h
  · refine wpAny_mono run (fun f s1 z => ?_) fun e s1 z => z
    match f, z with
    | .next, ⟨σ', H', J, q⟩ => exact wpAny_execs_nil ⟨σ', H', J.ofTry ok, q⟩
    | .brk, ⟨σ', H', J, q⟩ => exact ⟨σ', H', J.ofTry ok, q⟩
    | .cont, ⟨σ', H', J, q⟩ => exact ⟨σ', H', J.ofTry ok, q⟩
    | .ret u, ⟨v, σ', H', J, r, q⟩ => exact ⟨v, σ', H', J.ofTry ok, r, q⟩
  · obtain ⟨a, B, sI, pins', σ1, H1, cls, d, ea, J', nb, up, sky, na, os, ag, w⟩ := xx
    subst ea
    have J : Inv X pins σ1 H1 sI := J'.ofTry ok
    rw [st] at sky
    show wpAny (model X.prog X.w) X.A (noteFrame (.ref a) X.env) _ _ _
    refine Sky.land Zc.steady A1 fr sky fun h3 fl up3 => ?_
    have J3 : Inv X pins σ1 H1 { s' with heap := h3 } := J.landed nb fl.1 (up.trans up3) os ag
    obtain ⟨oe, vs, he, hz, hdt⟩ := fl.there
    have out : a ∉ frs (X.env :: X.outer) := fun m => by
      obtain ⟨_, o2, e2, ne⟩ := fl.2.2.1.mem m
      rw [he] at e2
      cases e2
      exact ne _ hdt
    have notL : a ≠ X.env.locals := fun z => out (List.mem_filterMap.mpr ⟨X.env, List.mem_cons_self, by rw [fr, z]⟩)
    have notF : a ∉ X.fs := fun m => by
      obtain ⟨e, he, q⟩ := List.mem_filterMap.mp m
      exact out (List.mem_filterMap.mpr ⟨e, List.mem_cons_of_mem _ he, q⟩)
    have S3 := J3.suite he hdt na notL notF
    have ty : PySem.W.Looks (model X.prog X.w) h3 (typeOf (.ref a)) cls := fun A Q E s k q => wpAny_typeOf_ref (k _ _ he) (by rw [hz.1]; exact q)
    have each : ∀ (hs2 : List ExceptHandler) (l2 : List (Value × (Addr → Value → Option Addr → TS))), Each X i hs2 l2 → wEach X.K i Wo D l2 cls d σ1 H1 → wpAny (model X.prog X.w) X.A (handleBy (.ref a) X.env hs2) (SP X pins D) X.xe { s' with heap := h3 } := by
      intro hs2 l2 hk
      induction hk with
      | nil =>
        intro wo
        refine wpAny_handleBy_nil ?_
        obtain ⟨_, _, _, o2, v2, T2, oT2, t2, g1, g2, g3, g4, g5⟩ := id fl
        unfold PySem.passOn
        refine wpAny_bind (wpAny_field g1 g3 g4 ?_)
        rw [if_neg (show ¬ ((Value.ref T2 == Value.none) = true) from by simp)]
        have last : wpAny (model X.prog X.w) X.A (setFlight (.ref a) X.env.frame) (fun _ s4 => wpAny (model X.prog X.w) X.A (throw (.ref a) : Sem Flow) (SP X pins D) X.xe s4) X.xe { s' with heap := h3 } := by
          rw [fr]
          refine HandSPX.setFlight_upZ fl fun h4 up4 u4 => wpAny_throw (tk _ _ ⟨a, B, sI, pins, σ1, H1, cls, d, rfl, J, nb, (up.trans up3).trans u4, .inr (.inr (by rw [st]; exact up4)), na, os, ag, wo⟩)
        first
          | exact wpAny_bind (wpAny_pure (wpAny_bind last))
          | exact wpAny_bind last
      | @cons x n c ts b bs p q hds l3 nm at_ lo su t ih =>
        intro wo
        obtain ⟨k, hk, yes, no⟩ := wo
        refine wpAny_handleBy_cons (codeAny_handlers_test ?_) (by intro q; cases q)
        have LM := PySem.W.exm_one (M := model X.prog X.w) (J3.kIn) ty hk
        have see : ∀ {Q : Value → Shared → Prop} {E : Value → Shared → Prop}, Q c { s' with heap := h3 } → wpAny (model X.prog X.w) (X.A.mark (some (.ref a))) (eval (.Name x p) X.env) Q E { s' with heap := h3 } := by
          intro Q E q
          obtain ⟨g1, g2, g3 | ⟨g3, g4, g5⟩⟩ := nm
          · exact ld_glob (X := X.suite a ((a, oe) :: (X.pn ++ pins))) S3 g1 g3 q g2
          · exact ld_blt (X := X.suite a ((a, oe) :: (X.pn ++ pins))) S3 g1 g3 g4 q g5 g2
        refine see (LM.here ?_)
        cases k with
        | false =>
          show wpAny _ X.A (handleBy (.ref a) X.env hds) _ _ _
          exact ih (no rfl)
        | true =>
          refine codeAny_handlers_suite_as (HandSPX.lands_againZ fl fun h4 fl4 up4 => ?_)
          have J4 : Inv X pins σ1 H1 { s' with heap := h4 } := J.landed nb fl4.1 ((up.trans up3).trans up4) os ag
          obtain ⟨o4, v4, e4, z4, d4⟩ := fl4.there
          have S4 := J4.suite e4 d4 na notL notF
          refine store_ok (X := X.suite a ((a, o4) :: (X.pn ++ pins))) (v := .ref a) S4 nd at_ (.inl lo) rfl (fun s5 S5 => ?_) (.inr lo)
          refine wpAny_mono ((su a o4 cls d (X.pn ++ pins) z4 ⟨_, d4⟩).run [] s5 _ H1 _ S5 (yes rfl a na)) (fun f s6 z => ?_) (fun _ _ z => False.elim z)
          have away : ∀ {σ6 : L2.St} {H6 : Hp} {Q : Shared → Prop}, Inv (X.suite a ((a, o4) :: (X.pn ++ pins))) [] σ6 H6 s6 → (∀ s7, Inv X pins (σ6.set i none) H6 s7 → Q s7) →
              wpAny (model X.prog X.w) X.A (do bindName X.env n .none; unbindBehindTheSuite X.env n q) (fun _ s7 => Q s7) X.xe s6 := fun S6 g => gone_ok (S6.unsuite ok) nd at_ lo g
          match f, z with
          | .next, ⟨σ6, H6, S6, g⟩ => exact away S6 fun s7 J7 => ⟨_, _, J7, g⟩
          | .brk, ⟨σ6, H6, S6, g⟩ => exact away S6 fun s7 J7 => ⟨_, _, J7, g⟩
          | .cont, ⟨σ6, H6, S6, g⟩ => exact away S6 fun s7 J7 => ⟨_, _, J7, g⟩
          | .ret u, ⟨v6, σ6, H6, S6, r6, g⟩ => exact away S6 fun s7 J7 => ⟨_, _, _, J7, r6, g⟩
    exact each _ _ hd w
end
/-- // by an int that is not 0, below 2 ^ 9000 in size -/
def CDivZ (_ j : Int) : Prop := j ≠ 0 ∧ j.natAbs.log2 < 9000
theorem op_fdivZ {X : Cx} : OpR X (binaryOp .FloorDiv) (rI CDivZ fun i j => .int (i.fdiv j)) := opI fun i j _ _ _ _ _ hc q => floordiv_int hc.1 q (.inl (PyProof.noPylong_of_log2 hc.2))
end Vf

/-! ratios: the mathematics -/
namespace Vf
/-- the greatest common divisor, with the sign of the bottom -/
def sg (t b : Int) : Int := if b < 0 then -((Nat.gcd t.natAbs b.natAbs : Nat) : Int) else ((Nat.gcd t.natAbs b.natAbs : Nat) : Int)
/-- in lowest terms -/
def low (t b : Int) : Int × Int := (t.fdiv (sg t b), b.fdiv (sg t b))
theorem fdiv_of_mul {s k : Int} (h : s ≠ 0) : (s * k).fdiv s = k := Int.mul_fdiv_cancel_left k h
theorem gcd_pos {t b : Int} (h : b ≠ 0) : 0 < Nat.gcd t.natAbs b.natAbs := Nat.gcd_pos_of_pos_right _ (by omega)
theorem sg_ne {t b : Int} (h : b ≠ 0) : sg t b ≠ 0 := by
  have g := gcd_pos (t := t) h
  unfold sg
  split <;> omega
/-- t and b are the sign's multiples -/
theorem sg_dvd {t b : Int} (h : b ≠ 0) : ∃ t' b' : Int, t = sg t b * t' ∧ b = sg t b * b' ∧ 0 < b' ∧ Nat.gcd t'.natAbs b'.natAbs = 1 := by
  have g := gcd_pos (t := t) h
  generalize hG : Nat.gcd t.natAbs b.natAbs = G at g
  have d1 : ((G : Nat) : Int) ∣ t := Int.ofNat_dvd_left.mpr (by rw [← hG]; exact Nat.gcd_dvd_left _ _)
  have d2 : ((G : Nat) : Int) ∣ b := Int.ofNat_dvd_left.mpr (by rw [← hG]; exact Nat.gcd_dvd_right _ _)
  obtain ⟨x, hx⟩ := d1
  obtain ⟨y, hy⟩ := d2
  have one : Nat.gcd x.natAbs y.natAbs = 1 := by
    have e1 : t.natAbs = G * x.natAbs := by rw [hx, Int.natAbs_mul, Int.natAbs_natCast]
    have e2 : b.natAbs = G * y.natAbs := by rw [hy, Int.natAbs_mul, Int.natAbs_natCast]
    have e3 : Nat.gcd (G * x.natAbs) (G * y.natAbs) = G * Nat.gcd x.natAbs y.natAbs := Nat.gcd_mul_left _ _ _
    rw [← e1, ← e2, hG] at e3
    have e4 : G * 1 = G * Nat.gcd x.natAbs y.natAbs := by omega
    exact (Nat.eq_of_mul_eq_mul_left g e4).symm
  have gp : (0 : Int) < (G : Int) := by omega
  have sg_e : sg t b = if b < 0 then -(G : Int) else (G : Int) := by unfold sg; rw [hG]
  by_cases hb : b < 0
  · refine ⟨-x, -y, ?_, ?_, ?_, ?_⟩
    · rw [sg_e, if_pos hb, Int.neg_mul_neg]; exact hx
    · rw [sg_e, if_pos hb, Int.neg_mul_neg]; exact hy
    · rw [hy] at hb
      have : y < 0 := by
        rcases Int.lt_or_le y 0 with z | z
        · exact z
        · have := Int.mul_nonneg (Int.le_of_lt gp) z
          omega
      omega
    · rw [Int.natAbs_neg, Int.natAbs_neg]; exact one
  · refine ⟨x, y, ?_, ?_, ?_, one⟩
    · rw [sg_e, if_neg hb]; exact hx
    · rw [sg_e, if_neg hb]; exact hy
    · rcases Int.lt_or_le 0 y with z | z
      · exact z
      · have h2 : (G : Int) * y ≤ 0 := Int.mul_nonpos_of_nonneg_of_nonpos (Int.le_of_lt gp) z
        rw [← hy] at h2
        omega
theorem low_eq {t b t' b' : Int} (h : b ≠ 0) (e1 : t = sg t b * t') (e2 : b = sg t b * b') : low t b = (t', b') := by
  have s := sg_ne (t := t) h
  unfold low
  have a1 : t.fdiv (sg t b) = t' := by
    have z := fdiv_of_mul (s := sg t b) (k := t') s
    rw [← e1] at z
    exact z
  have a2 : b.fdiv (sg t b) = b' := by
    have z := fdiv_of_mul (s := sg t b) (k := b') s
    rw [← e2] at z
    exact z
  rw [a1, a2]
/-- in lowest terms: its bottom is above 0, nothing is common -/
structure Low (t b : Int) : Prop where
  pos : 0 < b
  one : Nat.gcd t.natAbs b.natAbs = 1
theorem low_is {t b : Int} (h : b ≠ 0) : Low (low t b).1 (low t b).2 := by
  obtain ⟨x, y, e1, e2, hp, ho⟩ := sg_dvd (t := t) h
  rw [low_eq h e1 e2]
  exact ⟨hp, ho⟩
theorem low_id {t b : Int} (h : Low t b) : low t b = (t, b) := by
  have hb : b ≠ 0 := by have := h.pos; omega
  have e : sg t b = 1 := by unfold sg; rw [h.one, if_neg (by have := h.pos; omega)]; rfl
  exact low_eq hb (by rw [e, Int.one_mul]) (by rw [e, Int.one_mul])
theorem sg_scale {t b k : Int} (hk : 0 < k) : sg (t * k) (b * k) = sg t b * k := by
  have e : Nat.gcd (t * k).natAbs (b * k).natAbs = Nat.gcd t.natAbs b.natAbs * k.natAbs := by
    rw [Int.natAbs_mul, Int.natAbs_mul, Nat.gcd_mul_right]
  have ek : ((k.natAbs : Nat) : Int) = k := by omega
  unfold sg
  rw [e]
  by_cases hb : b < 0
  · have : b * k < 0 := Int.mul_neg_of_neg_of_pos hb hk
    rw [if_pos hb, if_pos this, Int.natCast_mul, ek, Int.neg_mul]
  · have : ¬ b * k < 0 := by
      have := Int.mul_nonneg (show (0 : Int) ≤ b by omega) (Int.le_of_lt hk)
      omega
    rw [if_neg hb, if_neg this, Int.natCast_mul, ek]
theorem low_scale {t b k : Int} (h : b ≠ 0) (hk : 0 < k) : low (t * k) (b * k) = low t b := by
  obtain ⟨x, y, e1, e2, _, _⟩ := sg_dvd (t := t) h
  have hbk : b * k ≠ 0 := Int.mul_ne_zero h (by omega)
  rw [low_eq h e1 e2]
  refine low_eq hbk ?_ ?_
  · rw [sg_scale hk, Int.mul_assoc, Int.mul_comm k x, ← Int.mul_assoc, ← e1]
  · rw [sg_scale hk, Int.mul_assoc, Int.mul_comm k y, ← Int.mul_assoc, ← e2]
/-- a ratio k times over is the ratio -/
theorem low_back {t b k : Int} (h : Low t b) (hk : 0 < k) : low (t * k) (b * k) = (t, b) := by
  rw [low_scale (by have := h.pos; omega) hk, low_id h]
theorem low_size {t b : Int} (h : b ≠ 0) : (low t b).1.natAbs ≤ t.natAbs ∧ (low t b).2.natAbs ≤ b.natAbs := by
  obtain ⟨x, y, e1, e2, _, _⟩ := sg_dvd (t := t) h
  rw [low_eq h e1 e2]
  have s : 0 < (sg t b).natAbs := by have := sg_ne (t := t) h; omega
  have a1 : t.natAbs = (sg t b).natAbs * x.natAbs := by rw [← Int.natAbs_mul, ← e1]
  have a2 : b.natAbs = (sg t b).natAbs * y.natAbs := by rw [← Int.natAbs_mul, ← e2]
  rw [a1, a2]
  exact ⟨Nat.le_mul_of_pos_left _ s, Nat.le_mul_of_pos_left _ s⟩
theorem low_val {t b : Int} (h : b ≠ 0) : t * (low t b).2 = (low t b).1 * b := by
  obtain ⟨x, y, e1, e2, _, _⟩ := sg_dvd (t := t) h
  rw [low_eq h e1 e2]
  generalize sg t b = s at e1 e2
  rw [e1, e2]
  show s * x * y = x * (s * y)
  rw [Int.mul_comm s x, Int.mul_assoc]
theorem sg_size {t b : Int} (h : b ≠ 0) : (sg t b).natAbs ≤ b.natAbs := by
  have e : (sg t b).natAbs = Nat.gcd t.natAbs b.natAbs := by
    unfold sg
    split
    · rw [Int.natAbs_neg, Int.natAbs_natCast]
    · rw [Int.natAbs_natCast]
  rw [e]
  exact Nat.le_of_dvd (by omega) (Nat.gcd_dvd_right _ _)
/-- Euclid's laps: what holds ahead of the i-th -/
structure Lap (G P : Nat) (i : Nat) (a b : Int) : Prop where
  a0 : 0 ≤ a
  b0 : 0 ≤ b
  g : Nat.gcd a.natAbs b.natAbs = G
  le : i = 0 ∨ b ≤ a
  sm : a.natAbs * b.natAbs * 2 ^ (i - 1) ≤ P
theorem lap0 (x y : Int) : Lap (Nat.gcd x.natAbs y.natAbs) (x.natAbs * y.natAbs) 0 (if x < 0 then -x else x) (if y < 0 then -y else y) := by
  have e : ∀ z : Int, (if z < 0 then -z else z) = ((z.natAbs : Nat) : Int) := fun z => by split <;> omega
  rw [e, e]
  exact ⟨by omega, by omega, by rw [Int.natAbs_natCast, Int.natAbs_natCast], .inl rfl, by rw [Int.natAbs_natCast, Int.natAbs_natCast]; simp⟩
theorem lap_next {G P i : Nat} {a b : Int} (h : Lap G P i a b) (hb : b ≠ 0) : Lap G P (i + 1) b (a % b) := by
  have b1 : 0 < b := by have := h.b0; omega
  have r0 := Int.emod_nonneg a hb
  have r1 := Int.emod_lt_of_pos a b1
  obtain ⟨x, rfl⟩ := Int.eq_ofNat_of_zero_le h.a0
  obtain ⟨y, rfl⟩ := Int.eq_ofNat_of_zero_le h.b0
  have em : ((x : Int) % (y : Int)) = ((x % y : Nat) : Int) := by omega
  refine ⟨by omega, r0, ?_, .inr (by omega), ?_⟩
  · rw [em, Int.natAbs_natCast, Int.natAbs_natCast]
    have g := h.g
    rw [Int.natAbs_natCast, Int.natAbs_natCast] at g
    rw [Nat.gcd_comm, ← Nat.gcd_rec, Nat.gcd_comm]
    exact g
  · have s := h.sm
    rw [em]
    rw [Int.natAbs_natCast, Int.natAbs_natCast] at s ⊢
    rw [Nat.add_sub_cancel]
    have y1 : 0 < y := by omega
    rcases h.le with z | z
    · rw [z] at s ⊢
      simp only [Nat.zero_sub, Nat.pow_zero, Nat.mul_one] at s ⊢
      have : x % y ≤ x := Nat.mod_le _ _
      calc y * (x % y) ≤ y * x := Nat.mul_le_mul_left _ this
        _ = x * y := Nat.mul_comm _ _
        _ ≤ P := s
    · have hxy : y ≤ x := by omega
      have hm : 2 * (x % y) ≤ x := by
        have q := Nat.div_add_mod x y
        have q1 : 1 ≤ x / y := (Nat.le_div_iff_mul_le y1).mpr (by omega)
        have q2 : y * 1 ≤ y * (x / y) := Nat.mul_le_mul_left _ q1
        have q3 := Nat.mod_lt x y1
        omega
      by_cases hi : i = 0
      · rw [hi] at s ⊢
        simp only [Nat.zero_sub, Nat.pow_zero, Nat.mul_one] at s ⊢
        have : x % y ≤ x := Nat.mod_le _ _
        calc y * (x % y) ≤ y * x := Nat.mul_le_mul_left _ this
          _ = x * y := Nat.mul_comm _ _
          _ ≤ P := s
      · have ei : 2 ^ i = 2 * 2 ^ (i - 1) := by
          have : i = (i - 1) + 1 := by omega
          rw [this, Nat.pow_succ, Nat.add_sub_cancel, Nat.mul_comm]
        rw [ei]
        calc y * (x % y) * (2 * 2 ^ (i - 1)) = (2 * (x % y)) * (y * 2 ^ (i - 1)) := by
              rw [Nat.mul_comm y (x % y), Nat.mul_assoc, Nat.mul_left_comm y 2, ← Nat.mul_assoc (x % y) 2, Nat.mul_comm (x % y) 2]
          _ ≤ x * (y * 2 ^ (i - 1)) := Nat.mul_le_mul_right _ hm
          _ = x * y * 2 ^ (i - 1) := by rw [Nat.mul_assoc]
          _ ≤ P := s
theorem lap_end {G P i : Nat} {a b : Int} (h : Lap G P i a b) (hb : b = 0) : a = ((G : Nat) : Int) := by
  have g := h.g
  rw [hb] at g
  have e : Nat.gcd a.natAbs (0 : Int).natAbs = a.natAbs := Nat.gcd_zero_right _
  rw [e] at g
  have := h.a0
  omega
theorem lap_over {G P : Nat} {i : Nat} {a b : Int} (h : Lap G P i a b) (hi : 0 < i) (hP : P < 2 ^ (i - 1)) : b = 0 := by
  have s := h.sm
  have l : b ≤ a := by rcases h.le with z | z <;> omega
  rcases Nat.eq_zero_or_pos (a.natAbs * b.natAbs) with z | z
  · rcases Nat.mul_eq_zero.mp z with z | z
    · have := h.b0; omega
    · omega
  · have : 1 * 2 ^ (i - 1) ≤ a.natAbs * b.natAbs * 2 ^ (i - 1) := Nat.mul_le_mul_right _ z
    omega
end Vf

set_option maxRecDepth 100000
set_option maxHeartbeats 4000000
/-! rules: a list or tuple walked; == of data; == by a class's own def; rows of ratios -/
namespace Vf
open PySem PySem.Spec PyProof.Rows L2
section
variable {X : Cx} {tg : Expr}
/-- a walk over a list or a tuple -/
def iSeq (K : PySem.W.Frag) (tl : TE) : TI := fun σ H R => tl σ H fun x H1 => ∃ a, x = .ref a ∧ ((∃ xs, SqL K H1 a xs ∧ R (Itl K a) H1) ∨ (∃ xs, SqT K H1 a xs ∧ R (Itt K a) H1))
theorem pi_seq {l : Expr} {tl : TE} (hl : PE X l tl) : PI X tg l (iSeq X.K tl) := by
  refine ⟨fun pins s σ H R I h => ?_⟩
  refine thn (hl.run pins s σ H _ I h) fun v s1 ⟨x, H1, I1, r1, q1⟩ => ?_
  obtain ⟨a, e, q1⟩ := q1
  subst e
  rcases q1 with ⟨xs, hq, q⟩ | ⟨xs, hq, q⟩
  · cases r1
    obtain ⟨its, rv, p, hz⟩ := I1.list hq
    refine wpAny_pyIter_list p.isList ?_
    refine ⟨s1.heap.objs.size, [s1.heap.objs.size], _, _, H1, rfl, I1.kept (t' := s1.toks) fun b o e => Heap.get?_push_of_some _ e, turn_list a _, ⟨_, Heap.get?_push_size _ rfl, rfl, rfl⟩, fun b hb => ?_, q⟩
    have e : b = s1.heap.objs.size := by simpa using hb
    subst e
    exact I1.fpOk (Nat.le_refl _) (I1.hok.fresh (Nat.le_refl _))
  · cases r1
    obtain ⟨its, rv, p, hz⟩ := I1.tuple hq
    refine wpAny_pyIter_tuple (show s1.heap.IsTuple a its.toArray from p) ?_
    refine ⟨s1.heap.objs.size, [s1.heap.objs.size], _, _, H1, rfl, I1.kept (t' := s1.toks) fun b o e => Heap.get?_push_of_some _ e, turn_tuple a _, ⟨_, Heap.get?_push_size _ rfl, rfl, rfl⟩, fun b hb => ?_, q⟩
    have e : b = s1.heap.objs.size := by simpa using hb
    subst e
    exact I1.fpOk (Nat.le_refl _) (I1.hok.fresh (Nat.le_refl _))
/-- list(x), told by its constants alone -/
def rListOf (K : PySem.W.Frag) : List V → Hp → VK → Prop := fun xs H Q => ∃ p ys, xs = [.ref p] ∧ (SqL K H p ys ∨ SqT K H p ys) ∧ ∀ l, H l = none → Q (.ref l) (upd H l (.lst ys))
theorem call_listK : CallR X (.type "list") (rListOf X.K) := call_list_of
/-- == and != of data without dicts -/
def rEqT (K : PySem.W.Frag) : R2 := fun x y H Q => ∃ d e, Dt K H x d ∧ Dt K H y e ∧ d.plain = true ∧ e.plain = true ∧ d.depth ≤ 60 ∧ Q (.bl (PyData.eqv d e)) H
def rNeT (K : PySem.W.Frag) : R2 := fun x y H Q => ∃ d e, Dt K H x d ∧ Dt K H y e ∧ d.plain = true ∧ e.plain = true ∧ d.depth ≤ 60 ∧ Q (.bl (!PyData.eqv d e)) H
theorem op_eqT (hu : X.A.units + 64 < cLine) (m : M1 X.base) : OpR X (compareOp .Eq) (rEqT X.K) := by
  intro pins s σ H x y v u Q I rx ry h
  obtain ⟨d, e, hd, he, pd, pe, hz, q⟩ := h
  obtain ⟨as, r1, _⟩ := Dt.reads I m hd rx
  obtain ⟨bs, r2, _⟩ := Dt.reads I m he ry
  exact SeqAt.eq_plain r1 r2 pd pe (by have := Nat.min_le_left d.depth e.depth; omega) ⟨.bl _, H, I, rfl, q⟩
theorem op_neT (hu : X.A.units + 64 < cLine) (m : M1 X.base) : OpR X (compareOp .NotEq) (rNeT X.K) := by
  intro pins s σ H x y v u Q I rx ry h
  obtain ⟨d, e, hd, he, pd, pe, hz, q⟩ := h
  obtain ⟨as, r1, _⟩ := Dt.reads I m hd rx
  obtain ⟨bs, r2, _⟩ := Dt.reads I m he ry
  exact SeqAt.ne_plain r1 r2 pd pe (by have := Nat.min_le_left d.depth e.depth; omega) ⟨.bl _, H, I, rfl, q⟩
/-- x == y, x of the class at C whose own == is at g -/
def rEqO (K : PySem.W.Frag) (C : Addr) (sp : Sp) (E : XK) : R2 := fun x y H Q => ∃ a dx fs t, x = .ref a ∧ H a = some (.ins C dx fs) ∧ TyX K H y t ∧ PySem.W.notFirst K C t = true ∧ sp [x, y] H Q E
theorem op_eqO {CX : CXT} {C g : Addr} {k : Nat} {fd : FuncData} {ps : List Str} {sp : Sp} {E : XK} (hs : PySem.W.findIn X.K (.ref C) "__eq__" = some (some (.ref g))) (hf : PySem.W.isFn X.K (.ref g) = true)
    (F : FnOk X.prog X.w X.K X.mg X.base CX k g fd ps sp) (hb : Binds X.K fd ps []) (hr : Room k X.A) (hx : Passes CX X E) : OpR X (compareOp .Eq) (rEqO X.K C sp E) := by
  intro pins s σ H x y v u Q I rx ry h
  obtain ⟨a, dx, fs, t, rfl, ha, ty, hn, q⟩ := h
  cases (show v = Value.ref a from rx)
  obtain ⟨mA, O, _⟩ := ins_get I.hok ha
  obtain ⟨od, J, _⟩ := O.look
  obtain ⟨P, Z, p, _⟩ := kit_of I ry ty
  obtain ⟨m, hF⟩ := I.fr
  refine PySem.W.cmp_K (op := .Eq) (tb := t) hr.units0 hF I.ok.mod.kin J (Z.ty _ _ I.kIn p) hn hs hf ?_
  have hsp : sp ([V.ref a, y] ++ []) H Q E := q
  refine wpAny_mono (run_fn (us := [.ref a, u]) (vs := [.ref a, y]) F hr hb .nil hx I (.cons rfl (.cons ry .nil)) hsp) (fun w s' z => ?_) fun _ _ x => x
  obtain ⟨z', H', I', rz, qz⟩ := z
  exact SlX.cmpback rz ⟨z', H', I', rz, qz⟩
end
/-- what is new in the second heap -/
def nw (H H' : Hp) : Hp := fun b => match H b with
  | some _ => none
  | none => H' b
theorem nw_at {H H' : Hp} {b : Addr} {o : HO} (h : H b = none) (e : H' b = some o) : nw H H' b = some o := by
  unfold nw
  rw [h]
  exact e
theorem nw_get {H H' : Hp} {b : Addr} {o : HO} (e : nw H H' b = some o) : H b = none ∧ H' b = some o := by
  unfold nw at e
  split at e
  · cases e
  · exact ⟨by assumption, e⟩
theorem nw_sub {H H' : Hp} : Same (nw H H') H' := fun b o e => (nw_get e).2
/-- the heap without l and p -/
def fz (l p : Addr) (H : Hp) : Hp := fun b => if b = l ∨ b = p then none else H b
theorem fz_at {l p b : Addr} {H : Hp} {o : HO} (h1 : b ≠ l) (h2 : b ≠ p) (e : H b = some o) : fz l p H b = some o := by
  unfold fz
  rw [if_neg (fun z => z.elim h1 h2)]
  exact e
theorem fz_get {l p b : Addr} {H : Hp} {o : HO} (e : fz l p H b = some o) : b ≠ l ∧ b ≠ p ∧ H b = some o := by
  unfold fz at e
  by_cases h : b = l ∨ b = p
  · rw [if_pos h] at e
    cases e
  · rw [if_neg h] at e
    exact ⟨fun z => h (.inl z), fun z => h (.inr z), e⟩
theorem fz_sub {l p : Addr} {H : Hp} : Same (fz l p H) H := fun b o e => (fz_get e).2.2
theorem fz_mono {l p : Addr} {H H' : Hp} (k : ∀ b o, b ≠ l → b ≠ p → H b = some o → H' b = some o) : Same (fz l p H) (fz l p H') := fun b o e => by
  obtain ⟨h1, h2, h3⟩ := fz_get e
  exact fz_at h1 h2 (k b o h1 h2 h3)
theorem nw_fz {l p : Addr} {H H' : Hp} {o1 o2 : HO} (hl : H l = some o1) (hp : H p = some o2) : Same (nw H H') (fz l p H') := fun b o e => by
  obtain ⟨h1, h2⟩ := nw_get e
  exact fz_at (fun z => by rw [z, hl] at h1; cases h1) (fun z => by rw [z, hp] at h1; cases h1) h2
theorem some_free {p b : Addr} {H H' : Hp} {o : HO} (k : ∀ c u, c ≠ p → H c = some u → H' c = some u) (hp : H' p = some o) (n : H' b = none) : H b = none := by
  cases e : H b with
  | none => rfl
  | some u =>
    by_cases h : b = p
    · rw [h, hp] at n
      cases n
    · rw [k b u h e] at n
      cases n
/-! ### rows of ratios -/
def pairD (p : Int × Int) : PyData := .tuple [.int p.1, .int p.2]
/-- a row without the zeros behind -/
def strip (l : List (Int × Int)) : List (Int × Int) := (l.reverse.dropWhile fun p => p.1 == 0).reverse
theorem strip_nil : strip [] = [] := rfl
theorem strip_snoc (l : List (Int × Int)) (x : Int × Int) : strip (l ++ [x]) = if x.1 = 0 then strip l else l ++ [x] := by
  unfold strip
  rw [List.reverse_append]
  simp only [List.reverse_cons, List.reverse_nil, List.nil_append, List.singleton_append, List.dropWhile_cons, beq_iff_eq]
  split
  · rfl
  · rw [List.reverse_cons, List.reverse_reverse]
theorem snoc_ind {α : Type} {P : List α → Prop} (h0 : P []) (hs : ∀ l x, P l → P (l ++ [x])) : ∀ l, P l := fun l => by
  have h : ∀ r : List α, P r.reverse := fun r => by
    induction r with
    | nil => exact h0
    | cons x r ih => rw [List.reverse_cons]; exact hs _ _ ih
  have z := h l.reverse
  rw [List.reverse_reverse] at z
  exact z
theorem snoc_cases {α : Type} (l : List α) : l = [] ∨ ∃ r x, l = r ++ [x] := snoc_ind (P := fun l => l = [] ∨ ∃ r x, l = r ++ [x]) (.inl rfl) (fun l x _ => .inr ⟨l, x, rfl⟩) l
theorem strip_last : ∀ {l r : List (Int × Int)} {x : Int × Int}, strip l = r ++ [x] → x.1 ≠ 0 := by
  intro l
  refine snoc_ind (P := fun l => ∀ {r : List (Int × Int)} {x : Int × Int}, strip l = r ++ [x] → x.1 ≠ 0) (fun {r x} h => by simp [strip_nil] at h) (fun l y ih {r x} h => ?_) l
  rw [strip_snoc] at h
  split at h
  · exact ih h
  · have z := (List.append_inj' h rfl).2
    cases z
    assumption
theorem strip_pre (l : List (Int × Int)) : ∃ r, l = strip l ++ r ∧ ∀ x ∈ r, x.1 = 0 := by
  refine snoc_ind (P := fun l => ∃ r, l = strip l ++ r ∧ ∀ x ∈ r, x.1 = 0) ⟨[], rfl, fun x h => by cases h⟩ (fun l y ih => ?_) l
  rw [strip_snoc]
  split
  · rename_i h0
    obtain ⟨r, e, hr⟩ := ih
    refine ⟨r ++ [y], by rw [← List.append_assoc, ← e], fun x hx => ?_⟩
    rcases List.mem_append.mp hx with z | z
    · exact hr x z
    · rw [List.mem_singleton.mp z]; exact h0
  · exact ⟨[], by simp, fun x h => by cases h⟩
theorem strip_mem {l : List (Int × Int)} {x : Int × Int} (h : x ∈ strip l) : x ∈ l := by
  obtain ⟨r, e, _⟩ := strip_pre l
  rw [e]
  exact List.mem_append.mpr (.inl h)
theorem strip_len (l : List (Int × Int)) : (strip l).length ≤ l.length := by
  obtain ⟨r, e, _⟩ := strip_pre l
  have := congrArg List.length e
  rw [List.length_append] at this
  omega
theorem strip_id {l : List (Int × Int)} (h : ∀ r x, l = r ++ [x] → x.1 ≠ 0) : strip l = l := by
  rcases snoc_cases l with e | ⟨r, x, e⟩
  · rw [e]; rfl
  · have z := h r x e
    rw [e, strip_snoc, if_neg z]
/-- tuples of two whole numbers each, at their addresses -/
inductive Tups (H : Hp) : List Addr → List (Int × Int) → Prop
  | nil : Tups H [] []
  | cons {a : Addr} {as : List Addr} {p : Int × Int} {ps : List (Int × Int)} : H a = some (.tup [.int p.1, .int p.2]) → Tups H as ps → Tups H (a :: as) (p :: ps)
theorem Tups.len {H : Hp} : ∀ {as : List Addr} {ps : List (Int × Int)}, Tups H as ps → as.length = ps.length
  | _, _, .nil => rfl
  | _, _, .cons _ t => congrArg (· + 1) t.len
theorem Tups.imp {H H' : Hp} (e : ∀ (a : Addr) (p : Int × Int), H a = some (.tup [.int p.1, .int p.2]) → H' a = some (.tup [.int p.1, .int p.2])) : ∀ {as : List Addr} {ps : List (Int × Int)}, Tups H as ps → Tups H' as ps
  | _, _, .nil => .nil
  | _, _, .cons h t => .cons (e _ _ h) (t.imp e)
theorem Tups.same {H H' : Hp} (e : Same H H') {as : List Addr} {ps : List (Int × Int)} (h : Tups H as ps) : Tups H' as ps := h.imp fun a p q => e _ _ q
theorem Tups.snoc {H : Hp} : ∀ {as : List Addr} {ps : List (Int × Int)} {a : Addr} {p : Int × Int}, Tups H as ps → H a = some (.tup [.int p.1, .int p.2]) → Tups H (as ++ [a]) (ps ++ [p])
  | _, _, _, _, .nil, h => .cons h .nil
  | _, _, _, _, .cons h t, h2 => .cons h (t.snoc h2)
theorem Tups.unsnoc {H : Hp} : ∀ {as : List Addr} {ps : List (Int × Int)} {p : Int × Int}, Tups H as (ps ++ [p]) → ∃ as' a, as = as' ++ [a] ∧ Tups H as' ps ∧ H a = some (.tup [.int p.1, .int p.2])
  | _, [], _, .cons h .nil => ⟨[], _, rfl, .nil, h⟩
  | _, _ :: _, _, .cons h t => by
    obtain ⟨as', a, e, t', h'⟩ := t.unsnoc
    exact ⟨_ :: as', a, by rw [e]; rfl, .cons h t', h'⟩
theorem Tups.dts {K : PySem.W.Frag} {H : Hp} : ∀ {as : List Addr} {ps : List (Int × Int)}, Tups H as ps → Dts K H (as.map V.ref) (ps.map pairD)
  | _, _, .nil => .nil
  | _, _, .cons h t => .cons (.tup (SqT.of h) (.cons (.int _) (.cons (.int _) .nil))) t.dts
theorem Tups.app {H : Hp} : ∀ {as bs : List Addr} {ps qs : List (Int × Int)}, Tups H as ps → Tups H bs qs → Tups H (as ++ bs) (ps ++ qs)
  | _, _, _, _, .nil, h => h
  | _, _, _, _, .cons a t, h => .cons a (t.app h)
theorem Tups.take {H : Hp} : ∀ {as : List Addr} {ps : List (Int × Int)} (n : Nat), Tups H as ps → Tups H (as.take n) (ps.take n)
  | _, _, 0, _ => .nil
  | _, _, _ + 1, .nil => .nil
  | _, _, n + 1, .cons a t => .cons a (t.take n)
theorem Tups.at {H : Hp} : ∀ {as : List Addr} {ps : List (Int × Int)} {i : Nat} {a : Addr}, Tups H as ps → as[i]? = some a → ∃ p, ps[i]? = some p ∧ H a = some (.tup [.int p.1, .int p.2])
  | _, _, _, _, .nil, e => by simp at e
  | _, _, 0, _, .cons h _, e => by simp at e; subst e; exact ⟨_, rfl, h⟩
  | _, _, i + 1, a, .cons _ t, e => by
    obtain ⟨d, h1, h2⟩ := t.at (i := i) (a := a) (by simpa using e)
    exact ⟨d, by simpa using h1, h2⟩
theorem eqv_pair (p q : Int × Int) : PyData.eqv (pairD p) (pairD q) = decide (p = q) := by
  obtain ⟨a, b⟩ := p
  obtain ⟨c, d⟩ := q
  unfold pairD
  simp only [PyData.eqv, PyData.eqvAll, Bool.and_true]
  by_cases h1 : a = c <;> by_cases h2 : b = d <;> simp [h1, h2]
theorem eqvAll_pairs : ∀ l r : List (Int × Int), PyData.eqvAll (l.map pairD) (r.map pairD) = decide (l = r)
  | [], [] => by simp [PyData.eqvAll]
  | [], _ :: _ => by simp [PyData.eqvAll]
  | _ :: _, [] => by simp [PyData.eqvAll]
  | p :: l, q :: r => by
    simp only [List.map_cons, PyData.eqvAll, eqv_pair, eqvAll_pairs l r]
    by_cases h1 : p = q <;> by_cases h2 : l = r <;> simp [h1, h2]
theorem eqv_row (l r : List (Int × Int)) : PyData.eqv (.tuple (l.map pairD)) (.tuple (r.map pairD)) = decide (l = r) := by
  simp only [PyData.eqv]
  exact eqvAll_pairs l r
theorem eqv_rowL (l r : List (Int × Int)) : PyData.eqv (.list (l.map pairD)) (.list (r.map pairD)) = decide (l = r) := by
  simp only [PyData.eqv]
  exact eqvAll_pairs l r
theorem plain_pairs : ∀ l : List (Int × Int), PyData.plainAll (l.map pairD) = true
  | [] => by simp only [List.map_nil, PyData.plainAll]
  | p :: l => by
    simp only [List.map_cons, PyData.plainAll, plain_pairs l, pairD, PyData.plain, Bool.and_self]
theorem plain_row (l : List (Int × Int)) : (PyData.tuple (l.map pairD)).plain = true ∧ (PyData.list (l.map pairD)).plain = true := by
  simp only [PyData.plain]
  exact ⟨plain_pairs l, plain_pairs l⟩
theorem depth_pairs : ∀ l : List (Int × Int), PyData.depthAll (l.map pairD) ≤ 1
  | [] => by simp only [List.map_nil, PyData.depthAll]; omega
  | p :: l => by
    have h := depth_pairs l
    simp only [List.map_cons, PyData.depthAll, pairD, PyData.depth]
    exact Nat.max_le.mpr ⟨by simp, h⟩
theorem depth_row (l : List (Int × Int)) : (PyData.tuple (l.map pairD)).depth ≤ 60 ∧ (PyData.list (l.map pairD)).depth ≤ 60 := by
  have h := depth_pairs l
  simp only [PyData.depth]
  omega
/-- a comprehension over a list or a tuple -/
theorem lc_seq {K : PySem.W.Frag} {a : Addr} {xs : List V} {g : TG} {tt : TT} {te : TE} {vs : List Nat} {σ : L2.St} {H1 : Hp} {Qd : Addr → Hp → Prop} (h : SqL K H1 a xs ∨ SqT K H1 a xs) (Pv : Addr → Nat → Hp → Prop)
    (h0 : ∀ D, H1 D = none → Pv D 0 (upd H1 D (.lst []))) (hl : ∀ D i H, H1 D = none → Pv D i H → (SqL K H1 a xs → SqL K H a xs) ∧ (SqT K H1 a xs → SqT K H a xs))
    (hs : ∀ D i x H, H1 D = none → xs[i]? = some x → Pv D i H → g x (wipe σ vs) H fun σ2 H2 => wipe σ2 vs = wipe σ vs ∧ tt σ2 H2 fun b H3 =>
      if b = true then te σ2 H3 fun y H4 => ∃ acc, H4 D = some (.lst acc) ∧ acc.length < sizeLine ∧ Pv D (i + 1) (upd H4 D (.lst (acc ++ [y]))) else Pv D (i + 1) H3) (hd : ∀ D H, H1 D = none → Pv D xs.length H → Qd D H) :
    (∃ xs, SqL K H1 a xs ∧ ∀ D, H1 D = none → ∃ W : Nat → Nat → Hp → Prop, (∃ m, W 0 m (upd H1 D (.lst []))) ∧ ∀ i m H, W i m H →
      (((Itl K a).stop i H ∧ Qd D H) ∨ ((Itl K a).go i H ∧ ∃ Nx : Hp → Prop, (∀ H', Nx H' → ∃ m', m' < m ∧ W (i + 1) m' H') ∧ ∀ x H', (Itl K a).yld i H x H' → g x (wipe σ vs) H' fun σ2 H2 => wipe σ2 vs = wipe σ vs ∧ tt σ2 H2 fun b H3 =>
        if b = true then te σ2 H3 fun y H4 => ∃ acc, H4 D = some (.lst acc) ∧ acc.length < sizeLine ∧ Nx (upd H4 D (.lst (acc ++ [y]))) else Nx H3))) ∨
    (∃ xs, SqT K H1 a xs ∧ ∀ D, H1 D = none → ∃ W : Nat → Nat → Hp → Prop, (∃ m, W 0 m (upd H1 D (.lst []))) ∧ ∀ i m H, W i m H →
      (((Itt K a).stop i H ∧ Qd D H) ∨ ((Itt K a).go i H ∧ ∃ Nx : Hp → Prop, (∀ H', Nx H' → ∃ m', m' < m ∧ W (i + 1) m' H') ∧ ∀ x H', (Itt K a).yld i H x H' → g x (wipe σ vs) H' fun σ2 H2 => wipe σ2 vs = wipe σ vs ∧ tt σ2 H2 fun b H3 =>
        if b = true then te σ2 H3 fun y H4 => ∃ acc, H4 D = some (.lst acc) ∧ acc.length < sizeLine ∧ Nx (upd H4 D (.lst (acc ++ [y]))) else Nx H3))) := by
  rcases h with h | h
  · exact .inl ⟨xs, h, fun D hD => lc_list (K := K) (a := a) (xs := xs) (Pv D) (h0 D hD) (fun i H _ p => (hl D i H hD p).1 h) (fun i x H hi p => hs D i x H hD hi p) (fun H p => hd D H hD p)⟩
  · exact .inr ⟨xs, h, fun D hD => lc_tup (K := K) (a := a) (xs := xs) (Pv D) (h0 D hD) (fun i H _ p => (hl D i H hD p).2 h) (fun i x H hi p => hs D i x H hD hi p) (fun H p => hd D H hD p)⟩
theorem strip_strip (l : List (Int × Int)) : strip (strip l) = strip l := strip_id fun r x h => strip_last h
end Vf

set_option maxRecDepth 100000
set_option maxHeartbeats 4000000
/-! ratios and rows of them as numbers: the mathematics -/
namespace Vf
/-- a number as its pair -/
def pq (r : Rat) : Int × Int := (r.num, (r.den : Int))
theorem low_pq {t b : Int} (h : b ≠ 0) : low t b = pq (Rat.divInt t b) := by
  obtain ⟨x, y, e1, e2, hp, ho⟩ := sg_dvd (t := t) h
  have s := sg_ne (t := t) h
  have e : Rat.divInt t b = Rat.divInt x y := by
    calc Rat.divInt t b = Rat.divInt (sg t b * x) (sg t b * y) := by rw [← e1, ← e2]
      _ = Rat.divInt x y := Rat.divInt_mul_left s
  rw [low_eq h e1 e2, e]
  obtain ⟨n, rfl⟩ := Int.eq_ofNat_of_zero_le (Int.le_of_lt hp)
  have hn : n ≠ 0 := by omega
  have ho' : x.natAbs.Coprime n := ho
  have e2 : Rat.divInt x (n : Int) = ⟨x, n, hn, ho'⟩ := by
    rw [Rat.divInt_ofNat, Rat.mk_eq_mkRat]
  rw [e2]
  rfl
theorem pq_low (r : Rat) : Low (pq r).1 (pq r).2 := ⟨by have := r.den_pos; show (0 : Int) < (r.den : Int); omega, r.reduced⟩
theorem pq_inj {a b : Rat} (h : pq a = pq b) : a = b := by
  have h1 := congrArg Prod.fst h
  have h2 := congrArg Prod.snd h
  exact Rat.ext h1 (Int.ofNat.inj h2)
theorem low_is_pq {p : Int × Int} (h : Low p.1 p.2) : ∃ r : Rat, p = pq r := by
  refine ⟨Rat.divInt p.1 p.2, ?_⟩
  rw [← low_pq (by have := h.pos; omega), low_id h]
theorem cast_ne {M : Int} (h : M ≠ 0) : (M : Rat) ≠ 0 := fun z => h (by exact_mod_cast z)
theorem low_mul {A M : Int} {q : Rat} (hM : M ≠ 0) (h : q * (M : Rat) = (A : Rat)) : low A M = pq q := by
  rw [low_pq hM, Rat.divInt_eq_div]
  congr 1
  rw [← h, Rat.mul_div_cancel (cast_ne hM)]
theorem low_add (a b : Rat) : low (a.num * b.den + b.num * a.den) (a.den * b.den) = pq (a + b) := by
  have h : ((a.den : Int) * (b.den : Int)) ≠ 0 := by
    have := a.den_nz
    have := b.den_nz
    exact Int.mul_ne_zero (by omega) (by omega)
  rw [low_pq h, Rat.add_def', ← Rat.divInt_ofNat]
  congr 1
theorem low_times (a b : Rat) : low (a.num * b.num) (a.den * b.den) = pq (a * b) := by
  have h : ((a.den : Int) * (b.den : Int)) ≠ 0 := by
    have := a.den_nz
    have := b.den_nz
    exact Int.mul_ne_zero (by omega) (by omega)
  rw [low_pq h, Rat.mul_def', ← Rat.divInt_ofNat]
  congr 1
/-- a number is a whole part of 1 / M, at most N of them -/
def Fr (M N : Nat) (r : Rat) : Prop := ∃ n : Int, r * (M : Rat) = (n : Rat) ∧ n.natAbs ≤ N
theorem Fr.size {M N : Nat} {r : Rat} (hM : 0 < M) (h : Fr M N r) : r.num.natAbs ≤ N ∧ r.den ≤ M := by
  obtain ⟨n, e, hn⟩ := h
  have hM' : (M : Int) ≠ 0 := by omega
  have z := low_mul (A := n) (M := (M : Int)) (q := r) hM' (by exact_mod_cast e)
  obtain ⟨s1, s2⟩ := low_size (t := n) hM'
  rw [z] at s1 s2
  have s1 : r.num.natAbs ≤ n.natAbs := s1
  have s2 : (r.den : Int).natAbs ≤ (M : Int).natAbs := s2
  omega
theorem Fr.add {M N N' : Nat} {a b : Rat} (h : Fr M N a) (h' : Fr M N' b) : Fr M (N + N') (a + b) := by
  obtain ⟨n, e, hn⟩ := h
  obtain ⟨n', e', hn'⟩ := h'
  refine ⟨n + n', ?_, by omega⟩
  rw [Rat.add_mul, e, e']
  exact_mod_cast rfl
theorem Fr.mul {M N M' N' : Nat} {a b : Rat} (h : Fr M N a) (h' : Fr M' N' b) : Fr (M * M') (N * N') (a * b) := by
  obtain ⟨n, e, hn⟩ := h
  obtain ⟨n', e', hn'⟩ := h'
  refine ⟨n * n', ?_, ?_⟩
  · have : ((M * M' : Nat) : Rat) = (M : Rat) * (M' : Rat) := by exact_mod_cast rfl
    have h2 : ((n * n' : Int) : Rat) = (n : Rat) * (n' : Rat) := by exact_mod_cast rfl
    rw [this, h2, ← e, ← e']
    grind
  · rw [Int.natAbs_mul]
    exact Nat.mul_le_mul hn hn'
theorem Fr.neg {M N : Nat} {a : Rat} (h : Fr M N a) : Fr M N (-a) := by
  obtain ⟨n, e, hn⟩ := h
  refine ⟨-n, ?_, by omega⟩
  rw [Rat.neg_mul, e]
  exact_mod_cast rfl
theorem Fr.scale {M N : Nat} {a : Rat} (k : Nat) (h : Fr M N a) : Fr (M * k) (N * k) a := by
  obtain ⟨n, e, hn⟩ := h
  refine ⟨n * k, ?_, ?_⟩
  · have : ((M * k : Nat) : Rat) = (M : Rat) * (k : Rat) := by exact_mod_cast rfl
    have h2 : ((n * k : Int) : Rat) = (n : Rat) * (k : Rat) := by exact_mod_cast rfl
    rw [this, h2, ← e]
    grind
  · rw [Int.natAbs_mul, Int.natAbs_natCast]
    exact Nat.mul_le_mul_right _ hn
theorem Fr.zero (M N : Nat) : Fr M N 0 := ⟨0, by rw [Rat.zero_mul]; rfl, Nat.zero_le _⟩
theorem Fr.le {M N N' : Nat} {a : Rat} (h : Fr M N a) (e : N ≤ N') : Fr M N' a := by
  obtain ⟨n, e1, hn⟩ := h
  exact ⟨n, e1, by omega⟩
theorem Fr.self (r : Rat) : Fr r.den r.num.natAbs r := by
  refine ⟨r.num, ?_, Nat.le_refl _⟩
  have h : (r.den : Rat) ≠ 0 := by
    have := r.den_nz
    exact_mod_cast this
  have z : (r.num : Rat) / (r.den : Rat) = r := by
    have := Rat.num_divInt_den r
    rw [Rat.divInt_eq_div] at this
    exact_mod_cast this
  rw [← z]
  rw [z]
  have := Rat.div_mul_cancel (a := (r.num : Rat)) h
  rw [z] at this
  exact this
theorem Fr.dvd {M M' N : Nat} {a : Rat} (h : Fr M N a) (d : M ∣ M') : ∃ k, M' = M * k ∧ Fr M' (N * k) a := by
  obtain ⟨k, e⟩ := d
  exact ⟨k, e, by rw [e]; exact h.scale k⟩
/-- below 2 ^ 1900 above and below -/
def Sr (r : Rat) : Prop := r.num.natAbs < 2 ^ 1900 ∧ r.den < 2 ^ 1900
theorem Fr.sr {M N : Nat} {r : Rat} (hM : 0 < M) (h : Fr M N r) (h1 : M < 2 ^ 1900) (h2 : N < 2 ^ 1900) : Sr r := by
  obtain ⟨a, b⟩ := h.size hM
  exact ⟨Nat.lt_of_le_of_lt a h2, Nat.lt_of_le_of_lt b h1⟩
/-! ### rows -/
def cf (l : List Rat) (i : Nat) : Rat := l.getD i 0
theorem cf_lt {l : List Rat} {i : Nat} (h : i < l.length) : cf l i = l[i] := by
  unfold cf
  rw [List.getD_eq_getElem?_getD, List.getElem?_eq_getElem h]
  rfl
theorem cf_get {l : List Rat} {i : Nat} {x : Rat} (h : l[i]? = some x) : cf l i = x := by
  unfold cf
  rw [List.getD_eq_getElem?_getD, h]
  rfl
theorem cf_ge {l : List Rat} {i : Nat} (h : l.length ≤ i) : cf l i = 0 := by
  unfold cf
  rw [List.getD_eq_getElem?_getD, List.getElem?_eq_none h]
  rfl
theorem cf_nil (i : Nat) : cf [] i = 0 := rfl
theorem cf_app {l r : List Rat} {i : Nat} : cf (l ++ r) i = if i < l.length then cf l i else cf r (i - l.length) := by
  unfold cf
  rw [List.getD_eq_getElem?_getD, List.getD_eq_getElem?_getD, List.getD_eq_getElem?_getD]
  split
  · rw [List.getElem?_append_left (by assumption)]
  · rw [List.getElem?_append_right (by omega)]
/-- a row without zeros behind -/
def stripQ (l : List Rat) : List Rat := (l.reverse.dropWhile fun r => r == 0).reverse
theorem stripQ_snoc (l : List Rat) (x : Rat) : stripQ (l ++ [x]) = if x = 0 then stripQ l else l ++ [x] := by
  unfold stripQ
  rw [List.reverse_append]
  simp only [List.reverse_cons, List.reverse_nil, List.nil_append, List.singleton_append, List.dropWhile_cons, beq_iff_eq]
  split
  · rfl
  · rw [List.reverse_cons, List.reverse_reverse]
theorem strip_map (l : List Rat) : strip (l.map pq) = (stripQ l).map pq := by
  refine snoc_ind (P := fun l => strip (l.map pq) = (stripQ l).map pq) rfl (fun l x ih => ?_) l
  rw [List.map_append, List.map_cons, List.map_nil, strip_snoc, stripQ_snoc, ih]
  have e : ((pq x).1 = 0) ↔ x = 0 := Rat.num_eq_zero
  by_cases h : x = 0
  · rw [if_pos h, if_pos (e.mpr h)]
  · rw [if_neg h, if_neg (fun z => h (e.mp z)), List.map_append]
    rfl
theorem cf_stripQ (l : List Rat) : ∀ i, cf (stripQ l) i = cf l i := by
  refine snoc_ind (P := fun l => ∀ i, cf (stripQ l) i = cf l i) (fun i => rfl) (fun l x ih i => ?_) l
  rw [stripQ_snoc]
  split
  · rename_i h
    rw [ih, cf_app, h]
    split
    · rfl
    · rename_i h2
      rw [cf_ge (by omega)]
      by_cases h3 : i - l.length = 0
      · rw [h3]; rfl
      · rw [cf_ge (show ([0] : List Rat).length ≤ i - l.length by show 1 ≤ _; omega)]
  · rfl
/-- no zero behind -/
def Stp (l : List Rat) : Prop := ∀ r x, l = r ++ [x] → x ≠ 0
theorem stripQ_stp (l : List Rat) : Stp (stripQ l) := by
  refine snoc_ind (P := fun l => Stp (stripQ l)) (fun r x h => by simp [stripQ] at h) (fun l y ih r x h => ?_) l
  rw [stripQ_snoc] at h
  split at h
  · exact ih r x h
  · have z := (List.append_inj' h rfl).2
    cases z
    assumption
theorem stripQ_id {l : List Rat} (h : Stp l) : stripQ l = l := by
  rcases snoc_cases l with e | ⟨r, x, e⟩
  · rw [e]; rfl
  · have z := h r x e
    rw [e, stripQ_snoc, if_neg z]
theorem stp_last {l : List Rat} (h : Stp l) (hl : 0 < l.length) : cf l (l.length - 1) ≠ 0 := by
  rcases snoc_cases l with e | ⟨r, x, e⟩
  · rw [e] at hl; cases hl
  · have z := h r x e
    rw [e, List.length_append]
    show cf (r ++ [x]) (r.length + 1 - 1) ≠ 0
    rw [cf_app, if_neg (by omega)]
    rw [show r.length + 1 - 1 - r.length = 0 by omega]
    exact z
theorem stp_len {a b : List Rat} (h : Stp a) (e : ∀ i, cf a i = cf b i) : a.length ≤ b.length := by
  rcases Nat.lt_or_ge b.length a.length with z | z
  · have q := stp_last h (by omega)
    rw [e, cf_ge (by omega)] at q
    exact absurd rfl q
  · exact z
theorem stp_ext {a b : List Rat} (ha : Stp a) (hb : Stp b) (e : ∀ i, cf a i = cf b i) : a = b := by
  have h1 := stp_len ha e
  have h2 := stp_len hb fun i => (e i).symm
  refine List.ext_getElem (by omega) fun i p q => ?_
  have z := e i
  rw [cf_lt p, cf_lt q] at z
  exact z
theorem stripQ_ext {a b : List Rat} (e : ∀ i, cf a i = cf b i) : stripQ a = stripQ b :=
  stp_ext (stripQ_stp a) (stripQ_stp b) fun i => by rw [cf_stripQ, cf_stripQ, e]
/-- the row of n numbers -/
def tab (n : Nat) (f : Nat → Rat) : List Rat := (List.range n).map f
theorem tab_len (n : Nat) (f : Nat → Rat) : (tab n f).length = n := by unfold tab; rw [List.length_map, List.length_range]
theorem cf_tab (n : Nat) (f : Nat → Rat) (i : Nat) : cf (tab n f) i = if i < n then f i else 0 := by
  by_cases h : i < n
  · rw [if_pos h]
    refine cf_get ?_
    unfold tab
    rw [List.getElem?_map, List.getElem?_range h]
    rfl
  · rw [if_neg h, cf_ge (by rw [tab_len]; omega)]
theorem tab_snoc (n : Nat) (f : Nat → Rat) : tab (n + 1) f = tab n f ++ [f n] := by
  unfold tab
  rw [List.range_succ, List.map_append]
  rfl
def padd (a b : List Rat) : List Rat := tab (max a.length b.length) fun i => cf a i + cf b i
theorem cf_padd (a b : List Rat) (i : Nat) : cf (padd a b) i = cf a i + cf b i := by
  unfold padd
  rw [cf_tab]
  split
  · rfl
  · rw [cf_ge (show a.length ≤ i by omega), cf_ge (show b.length ≤ i by omega), Rat.add_zero]
def pscale (a : List Rat) (c : Rat) : List Rat := a.map (· * c)
theorem cf_map {f : Rat → Rat} (hf : f 0 = 0) (a : List Rat) (i : Nat) : cf (a.map f) i = f (cf a i) := by
  by_cases h : i < a.length
  · rw [cf_lt (by rw [List.length_map]; exact h), cf_lt h, List.getElem_map]
  · rw [cf_ge (by rw [List.length_map]; omega), cf_ge (by omega), hf]
/-- sums -/
def sm (f : Nat → Rat) : Nat → Rat
  | 0 => 0
  | n + 1 => sm f n + f n
theorem sm_ext {f g : Nat → Rat} : ∀ {n : Nat}, (∀ i, i < n → f i = g i) → sm f n = sm g n
  | 0, _ => rfl
  | n + 1, h => by
    show sm f n + f n = sm g n + g n
    rw [sm_ext fun i hi => h i (by omega), h n (by omega)]
theorem sm_zero {f : Nat → Rat} : ∀ {n : Nat}, (∀ i, i < n → f i = 0) → sm f n = 0
  | 0, _ => rfl
  | n + 1, h => by
    show sm f n + f n = 0
    rw [sm_zero fun i hi => h i (by omega), h n (by omega), Rat.add_zero]
theorem sm_more {f : Nat → Rat} {n : Nat} : ∀ {m : Nat}, n ≤ m → (∀ i, n ≤ i → i < m → f i = 0) → sm f m = sm f n
  | 0, h, _ => by
    have : n = 0 := by omega
    rw [this]
  | m + 1, h, z => by
    by_cases e : n = m + 1
    · rw [e]
    · show sm f m + f m = sm f n
      rw [sm_more (m := m) (by omega) fun i h1 h2 => z i h1 (by omega), z m (by omega) (by omega), Rat.add_zero]
theorem sm_fr {f : Nat → Rat} {M N : Nat} : ∀ {n : Nat}, (∀ i, i < n → Fr M N (f i)) → Fr M (n * N) (sm f n)
  | 0, _ => Fr.zero _ _
  | n + 1, h => by
    have a := sm_fr (n := n) fun i hi => h i (by omega)
    have b := h n (by omega)
    have c := a.add b
    rw [Nat.succ_mul]
    exact c
/-- the number of a power in a product -/
def pc (a b : List Rat) (k : Nat) : Rat := sm (fun i => cf a i * cf b (k - i)) (k + 1)
def pmul (a b : List Rat) : List Rat := tab (a.length + b.length - 1) (pc a b)
theorem pc_zero {a b : List Rat} {k : Nat} (h : a.length + b.length ≤ k + 1) : pc a b k = 0 := by
  unfold pc
  refine sm_zero fun i hi => ?_
  by_cases h1 : i < a.length
  · rw [cf_ge (show b.length ≤ k - i by omega), Rat.mul_zero]
  · rw [cf_ge (show a.length ≤ i by omega), Rat.zero_mul]
theorem cf_pmul (a b : List Rat) (k : Nat) : cf (pmul a b) k = pc a b k := by
  unfold pmul
  rw [cf_tab]
  split
  · rfl
  · rw [pc_zero (by omega)]
end Vf

set_option maxRecDepth 100000
set_option maxHeartbeats 4000000
/-! rules: lcm; + - * of an object of a class with anything -/
namespace PySem.W
open PySem PySem.Spec PyProof.Rows
section
variable {prog : Program} {w : World} {A : Around} {E : Value → Shared → Prop} {s : Shared} {K : Frag} {x C L f g : Addr} {h₀ : Heap} {m : Str → Option Value} {ox : Obj} {od : Option Obj}
/-- whether a built-in type has a slot for the operator -/
def slotB (r1 r2 : Option Value) : Bool := (r1.isSome && !isSeqSlot r1) || (r2.isSome && !isSeqSlot r2)
theorem fills_type {M : Model} {h : Heap} {nm t : String} {r1 r2 : Option Value} (X : K.In h) (h1 : findIn K (.type t) (PySem.dunder nm) = some r1) (h2 : findIn K (.type t) (PySem.dunderR nm) = some r2) : Looks M h (fillsNumberSlot (.type t) nm) (slotB r1 r2) := by
  intro A Q E s k q
  unfold fillsNumberSlot
  refine wpAny_bind (looks_findIn X h1 A _ E s k ?_)
  refine wpAny_bind (looks_findIn X h2 A _ E s k ?_)
  exact wpAny_pure q
theorem own_slot {M : Model} {h : Heap} {nm : String} (X : K.In h) (hs : findIn K (.ref C) (PySem.dunder nm) = some (some (.ref f))) (hR : findIn K (.ref C) (PySem.dunderR nm) = some (some (.ref g))) : Looks M h (numberSlotInPython (.ref C) nm) true := by
  intro A Q E s k q
  unfold numberSlotInPython
  refine wpAny_bind (looks_findIn X hs A _ E s k ?_)
  refine wpAny_bind (wpAny_pure ?_)
  refine wpAny_bind (looks_findIn X hR A _ E s k ?_)
  refine wpAny_bind (wpAny_pure ?_)
  exact wpAny_pure q
theorem type_slot {M : Model} {h : Heap} {nm t : String} : Looks M h (numberSlotInPython (.type t) nm) false := by
  intro A Q E s k q
  unfold numberSlotInPython
  exact wpAny_pure q
/-- left an object of the class at C, right of a built-in type -/
theorem binop_left {op : Operator} {b : Value} {t : String} {r1 r2 : Option Value} {Q : Value → Shared → Prop} (F : Fr h₀ L s.heap m) (X₀ : K.In h₀) (I : InstAt s.heap x ox C od) (hb : Looks (model prog w) s.heap (typeOf b) (.type t)) (hc : selfFirst K C = true)
    (hs : findIn K (.ref C) (PySem.dunder op.info.2) = some (some (.ref f))) (hf : isFn K (.ref f) = true) (hR : findIn K (.ref C) (PySem.dunderR op.info.2) = some (some (.ref g)))
    (h1 : findIn K (.type t) (PySem.dunder op.info.2) = some r1) (h2 : findIn K (.type t) (PySem.dunderR op.info.2) = some r2) (sub : subIn K (.type t) (.ref C) = some false)
    (h : wpAny (model prog w) A (call (.ref f) [.ref x, b]) (CmpBack Q) E s) : wpAny (model prog w) A (binaryOp op (.ref x) b) Q E s := by
  have X := X₀.keeps F.keep
  obtain ⟨cd, hcd, hm⟩ := any_some hc
  obtain ⟨rest, hm⟩ : ∃ rest, cd.mro = .ref C :: rest := by
    cases q : cd.mro with
    | nil => rw [q] at hm; cases hm
    | cons a r => rw [q] at hm; exact ⟨r, by rw [List.head?_cons] at hm; cases (beq_iff_eq.mp hm); rfl⟩
  unfold binaryOp
  refine wpAny_holding (wpAny_bind ?_)
  unfold binaryOp1
  refine wpAny_bind (I.type.here (wpAny_bind (hb.here (wpAny_bind ((fills_K X hcd hm hs).here ?_)))))
  have ne : (Value.ref C == Value.type t) = false := by rfl
  simp only [ne, if_neg Bool.false_ne_true]
  refine wpAny_bind ((fills_type X h1 h2).here ?_)
  have fin : wpAny (model prog w) A (tryMethod (.ref x) (PySem.dunder op.info.2) b) (fun r s' => ∃ v, r = some v ∧ Q v s') E s := by
    unfold tryMethod
    refine wpAny_bind (special_fn X I hs (beq_iff_eq.mp hf) (wpAny_mono h (fun v s' hv => ?_) fun _ _ e => e))
    cases v <;> first | exact hv.elim | exact wpAny_pure ⟨_, rfl, hv⟩
  cases hsl : slotB r1 r2 with
  | false =>
    simp only [Bool.and_false, Bool.false_eq_true, if_false, Bool.false_and]
    refine wpAny_bind (wpAny_pure ?_)
    simp only [Bool.false_eq_true, if_false]
    refine wpAny_bind (wpAny_mono fin (fun r s' z => ?_) fun _ _ e => e)
    obtain ⟨v, rfl, q⟩ := z
    exact wpAny_pure (wpAny_pure q)
  | true =>
    simp only [Bool.and_self, if_true]
    refine wpAny_bind ((looks_subIn X sub).here ?_)
    simp only [Bool.false_eq_true, if_false, Bool.not_false, Bool.and_self, if_true]
    refine wpAny_bind ((own_slot X hs hR).here ?_)
    simp only [if_true]
    refine wpAny_bind ((type_slot).here ?_)
    simp only [Bool.not_false, if_true]
    refine wpAny_bind ((looks_findIn X h2).here ?_)
    refine wpAny_bind (wpAny_mono fin (fun r s' z => ?_) fun _ _ e => e)
    obtain ⟨v, rfl, q⟩ := z
    exact wpAny_pure (wpAny_pure q)
/-- left of a built-in type without such a slot, right an object of the class at C -/
theorem binop_right {op : Operator} {a : Value} {t : String} {r1 r2 : Option Value} {Q : Value → Shared → Prop} (F : Fr h₀ L s.heap m) (X₀ : K.In h₀) (I : InstAt s.heap x ox C od) (ha : Looks (model prog w) s.heap (typeOf a) (.type t)) (hc : selfFirst K C = true)
    (hs : findIn K (.ref C) (PySem.dunder op.info.2) = some (some (.ref f))) (hR : findIn K (.ref C) (PySem.dunderR op.info.2) = some (some (.ref g))) (hg : isFn K (.ref g) = true)
    (h1 : findIn K (.type t) (PySem.dunder op.info.2) = some r1) (h2 : findIn K (.type t) (PySem.dunderR op.info.2) = some r2) (sub : subIn K (.ref C) (.type t) = some false)
    (hl : slotB r1 r2 = true → ∀ (Q : Option Value → Shared → Prop), Q none s → wpAny (model prog w) A (tryMethod a (PySem.dunder op.info.2) (.ref x)) Q E s)
    (h : wpAny (model prog w) A (call (.ref g) [.ref x, a]) (CmpBack Q) E s) : wpAny (model prog w) A (binaryOp op a (.ref x)) Q E s := by
  have X := X₀.keeps F.keep
  obtain ⟨cd, hcd, hm⟩ := any_some hc
  obtain ⟨rest, hm⟩ : ∃ rest, cd.mro = .ref C :: rest := by
    cases q : cd.mro with
    | nil => rw [q] at hm; cases hm
    | cons a r => rw [q] at hm; exact ⟨r, by rw [List.head?_cons] at hm; cases (beq_iff_eq.mp hm); rfl⟩
  have fin : wpAny (model prog w) A (tryMethod (.ref x) (PySem.dunderR op.info.2) a) (fun r s' => ∃ v, r = some v ∧ Q v s') E s := by
    unfold tryMethod
    refine wpAny_bind (special_fn X I hR (beq_iff_eq.mp hg) (wpAny_mono h (fun v s' hv => ?_) fun _ _ e => e))
    cases v <;> first | exact hv.elim | exact wpAny_pure ⟨_, rfl, hv⟩
  unfold binaryOp
  refine wpAny_holding (wpAny_bind ?_)
  unfold binaryOp1
  refine wpAny_bind (ha.here (wpAny_bind (I.type.here (wpAny_bind ((fills_type X h1 h2).here ?_)))))
  have ne : (Value.type t == Value.ref C) = false := by rfl
  simp only [ne, if_neg Bool.false_ne_true]
  refine wpAny_bind ((fills_K X hcd hm hs).here ?_)
  cases hsl : slotB r1 r2 with
  | false =>
    simp only [Bool.and_false, Bool.false_eq_true, if_false, Bool.false_and]
    refine wpAny_bind (wpAny_pure ?_)
    simp only [Bool.false_eq_true, if_false, Bool.not_false, Bool.and_self, if_true]
    refine wpAny_bind (wpAny_mono fin (fun r s' z => ?_) fun _ _ e => e)
    obtain ⟨v, rfl, q⟩ := z
    first
      | exact wpAny_bind (wpAny_rule (wpAny_pure (wpAny_pure q)))
      | exact wpAny_rule (wpAny_pure (wpAny_pure q))
  | true =>
    simp only [Bool.and_self, if_true]
    refine wpAny_bind ((looks_subIn X sub).here ?_)
    simp only [Bool.false_eq_true, if_false, Bool.not_false, Bool.and_self, if_true]
    refine wpAny_bind ((type_slot).here ?_)
    simp only [Bool.false_eq_true, if_false]
    refine wpAny_bind (hl hsl _ ?_)
    refine wpAny_bind (wpAny_mono fin (fun r s' z => ?_) fun _ _ e => e)
    obtain ⟨v, rfl, q⟩ := z
    first
      | exact wpAny_bind (wpAny_rule (wpAny_pure (wpAny_pure q)))
      | exact wpAny_rule (wpAny_pure (wpAny_pure q))
/-- - of an object of the class at C -/
theorem neg_own {Q : Value → Shared → Prop} (F : Fr h₀ L s.heap m) (X₀ : K.In h₀) (I : InstAt s.heap x ox C od) (hs : findIn K (.ref C) "__neg__" = some (some (.ref f))) (hf : isFn K (.ref f) = true)
    (h : wpAny (model prog w) A (call (.ref f) [.ref x]) Q E s) : wpAny (model prog w) A (unaryOp .USub (.ref x)) Q E s := by
  have X := X₀.keeps F.keep
  unfold unaryOp
  refine wpAny_holding ?_
  refine wpAny_ite_false (by rfl) ?_
  refine wpAny_bind (special_fn X I hs (beq_iff_eq.mp hf) (wpAny_mono h (fun v s' hv => ?_) fun _ _ e => e))
  exact wpAny_pure hv
end
end PySem.W

set_option maxRecDepth 100000
set_option maxHeartbeats 4000000
/-! zip and enumerate over lists and tuples alike, in loops and comprehensions -/
namespace Vf
open PySem PySem.Spec PyProof.Rows L2
/-- a list (true) or a tuple (false) of these items -/
def SqB (p : Bool) (K : PySem.W.Frag) (H : Hp) (a : Addr) (xs : List V) : Prop := match p with
  | true => SqL K H a xs
  | false => SqT K H a xs
def ItB (p : Bool) (h : Heap) (it a : Addr) (i : Nat) : Prop := match p with
  | true => h.IsListIter it a i
  | false => h.IsTupleIter it a i
def ArB (p : Bool) (h : Heap) (a : Addr) (items : Array Value) : Prop := match p with
  | true => h.IsList a items
  | false => h.IsTuple a items
theorem sqB_or {K : PySem.W.Frag} {H : Hp} {a : Addr} {xs : List V} (h : SqL K H a xs ∨ SqT K H a xs) : ∃ p, SqB p K H a xs := by
  rcases h with h | h
  · exact ⟨true, h⟩
  · exact ⟨false, h⟩
theorem sqB_to {p : Bool} {K : PySem.W.Frag} {H : Hp} {a : Addr} {xs : List V} (h : SqB p K H a xs) : SqL K H a xs ∨ SqT K H a xs := by
  cases p
  · exact .inr h
  · exact .inl h
theorem SqB.same {p : Bool} {K : PySem.W.Frag} {H H' : Hp} {a : Addr} {xs : List V} (h : SqB p K H a xs) (s : Same H H') : SqB p K H' a xs := by
  cases p
  · exact same_sqT s h
  · exact same_sqL s h
theorem drawsB {prog : Program} {w : World} {A : Around} (p : Bool) (hh : A.handled = none) (it l : Addr) (hne : l ≠ it) (items : Array Value) :
    Draws prog w A it [it, l] items.size (fun i v => items[i]? = some v) (fun i h => ItB p h it l i ∧ ArB p h l items) := by
  cases p
  · exact Draws.tuple hh it l hne items
  · exact Draws.list hh it l hne items
def obB (p : Bool) (a : Addr) : Obj := match p with
  | true => { cls := .type "list_iterator", data := .fields #[.ref a, .int 0 0] }
  | false => { cls := .type "tuple_iterator", data := .fields #[.ref a, .int 0 0] }
theorem beginsB (p : Bool) (a : Addr) (items : Array Value) : Begins (.ref a) (obB p a) fun h => ArB p h a items := by
  cases p
  · exact begins_tuple a items
  · exact begins_list a items
theorem itB_of {p : Bool} {h : Heap} {it a : Addr} (e : h.get? it = some (obB p a)) : ItB p h it a 0 := by
  cases p
  · exact ⟨_, e, rfl, rfl⟩
  · exact ⟨_, e, rfl, rfl⟩
theorem ItB.at {p : Bool} {h h' : Heap} {it a : Addr} {i : Nat} (st : ItB p h it a i) (k : ∀ o, h.get? it = some o → h'.get? it = some o) : ItB p h' it a i := by
  cases p
  · exact Heap.IsTupleIter.at st k
  · exact Heap.IsListIter.at st k
theorem ItB.obj {p : Bool} {h : Heap} {it a : Addr} {i : Nat} (st : ItB p h it a i) : ∃ o, h.get? it = some o ∧ ∀ v, o.data ≠ .cell v := by
  cases p
  · obtain ⟨o, e, _, d⟩ := st
    exact ⟨o, e, fun v z => by rw [d] at z; cases z⟩
  · obtain ⟨o, e, _, d⟩ := st
    exact ⟨o, e, fun v z => by rw [d] at z; cases z⟩
section
variable {X : Cx} {pins : List (Addr × Obj)} {σ : L2.St} {H : Hp} {s : Shared}
theorem seqB (I : Inv X pins σ H s) {p : Bool} {a : Addr} {xs : List V} (h : SqB p X.K H a xs) : ∃ its : List Value, Vals xs its ∧ ArB p s.heap a its.toArray := by
  cases p
  · obtain ⟨its, rv, q, _⟩ := I.tuple h
    exact ⟨its, rv, q⟩
  · obtain ⟨its, rv, q, _⟩ := I.list h
    exact ⟨its, rv, q.isList⟩
theorem seqB_inj (I : Inv X pins σ H s) {p : Bool} {a : Addr} {xs ys : List V} (h1 : SqB p X.K H a xs) (h2 : SqB p X.K H a ys) : xs = ys := by
  cases p
  · exact I.tuple_inj h1 h2
  · exact I.list_inj h1 h2
theorem ArB.lt {p : Bool} {h : Heap} {a : Addr} {its : Array Value} (q : ArB p h a its) : a < h.objs.size := by
  cases p
  · obtain ⟨o, e, _⟩ := q
    exact Heap.lt_size e
  · obtain ⟨o, e, _⟩ := q
    exact Heap.lt_size e
end
/-- the lists or tuples at a and b as they stand at each turn, the items in new pairs -/
def ItzB (p q : Bool) (K : PySem.W.Frag) (a b : Addr) : It :=
  ⟨fun i H => ∃ (xs ys : List V) (x y : V), SqB p K H a xs ∧ SqB q K H b ys ∧ xs[i]? = some x ∧ ys[i]? = some y,
    fun i H v H' => ∃ T x y, v = .ref T ∧ H T = none ∧ H' = upd H T (.tup [x, y]) ∧ (∀ xs, SqB p K H a xs → xs[i]? = some x) ∧ ∀ ys, SqB q K H b ys → ys[i]? = some y,
    fun i H => ∃ xs ys : List V, SqB p K H a xs ∧ SqB q K H b ys ∧ i ≤ xs.length ∧ i ≤ ys.length ∧ (xs.length = i ∨ ys.length = i)⟩
theorem sepB {a b z TI TO i1 i2 : Addr} (D : ZipApart z TI TO i1 i2 a b) : ZipSep2 z TI TO i1 i2 [i1, a] [i2, b] where
  TIz := D.TIz
  TOz := D.TOz
  TITO := D.TITO
  TIi1 := D.TIi1
  mem1 := by simp
  zf1 := by simp [D.i1z.symm, D.l1z.symm]
  Tf1 := by simp [D.TOi1, D.l1TO.symm]
  TIi2 := D.TIi2
  mem2 := by simp
  zf2 := by simp [D.i2z.symm, D.l2z.symm]
  Tf2 := by simp [D.TOi2, D.l2TO.symm]
  sep1_2 := by simp [D.i12, D.l2i1.symm]
  sep2_1 := by simp [D.i12.symm, D.l1i2.symm]
theorem turn_zipB {P : Program} {w : World} {K : PySem.W.Frag} {elts : List Expr} {kk : Nat} {tpos : Pos} (p q : Bool) {a b z TI TO i1 i2 : Addr} (D : ZipApart z TI TO i1 i2 a b) :
    Turn P w K (.Tuple elts kk tpos) (ItzB p q K a b) [z, TI, TO, i1, i2] z (fun i h => IsZip h z TI TO .none ∧ IsPair h TI (.ref i1) (.ref i2) ∧ (∃ x y, IsPair h TO x y) ∧ ItB p h i1 a i ∧ ItB q h i2 b i) where
  mem := by simp
  obj := fun i h st c hc => by
    obtain ⟨hz, hTI, ⟨x, y, hTO⟩, h1, h2⟩ := st
    have e' : c = z ∨ c = TI ∨ c = TO ∨ c = i1 ∨ c = i2 := by simpa using hc
    rcases e' with q | q | q | q | q
    · rw [q]; exact ⟨_, hz, fun v q => nomatch q⟩
    · rw [q]; exact ⟨_, hTI, fun v q => nomatch q⟩
    · rw [q]; exact ⟨_, hTO, fun v q => nomatch q⟩
    · rw [q]; exact h1.obj
    · rw [q]; exact h2.obj
  keep := fun i h h' st k => by
    obtain ⟨hz, hTI, ⟨x, y, hTO⟩, h1, h2⟩ := st
    exact ⟨k z (by simp) _ hz, k TI (by simp) _ hTI, ⟨x, y, k TO (by simp) _ hTO⟩, h1.at fun o q => k i1 (by simp) o q, h2.at fun o q => k i2 (by simp) o q⟩
  item := by
    intro X hP hw hK hc i pins s σ H E I hf st hg
    subst hP hw hK
    obtain ⟨hz, hTI, ⟨x0, y0, hTO⟩, h1, h2⟩ := st
    obtain ⟨xs, ys, x, y, hqx, hqy, hx, hy⟩ := hg
    obtain ⟨its, rv, p1⟩ := seqB I hqx
    obtain ⟨its2, rv2, p2⟩ := seqB I hqy
    obtain ⟨u, hu, ru⟩ := rv.get hx
    obtain ⟨u2, hu2, ru2⟩ := rv2.get hy
    have hzl : z < s.heap.objs.size := Heap.lt_size hz
    have hh : X.A.in1.handled = none := I.ok.hd hc
    have l1 : i < its.toArray.size := by
      have := (List.getElem?_eq_some_iff.mp hu).1
      simpa using this
    have l2 : i < its2.toArray.size := by
      have := (List.getElem?_eq_some_iff.mp hu2).1
      simpa using this
    refine wpAny_pyNext_zipD2_item (sepB D) (drawsB p hh i1 a D.l1i1 its.toArray) (drawsB q hh i2 b D.l2i2 its2.toArray) hz hTI hTO ⟨h1, p1⟩ ⟨h2, p2⟩ l1 l2 fun u' u2' h' tk e1 e2 z' TO' h1' h2' hT hsz hk => ?_
    have eu : u' = u := by
      rw [List.getElem?_toArray, hu] at e1
      exact (Option.some.inj e1).symm
    have eu2 : u2' = u2 := by
      rw [List.getElem?_toArray, hu2] at e2
      exact (Option.some.inj e2).symm
    subst eu eu2
    refine ⟨_, rfl, wpAny_letOwnedTupleGo_zip (s := { s with heap := h', toks := tk }) z' fun h'' z'' sb => ?_⟩
    have hT2 : h''.get? s.heap.objs.size = some { cls := .type "tuple", data := .seq #[u', u2'] } := (sb.2 _ (Nat.ne_of_gt hzl)).trans hT
    have new : ObjOk X.prog X.w (upd H s.heap.objs.size (.tup [x, y])) h'' s.heap.objs.size (.tup [x, y]) :=
      ⟨by show 2 ≤ sizeLine; decide, [u', u2'], .cons ru (.cons ru2 .nil), ⟨_, hT2, rfl, _, rfl⟩⟩
    have I1 : Inv X pins σ (upd H s.heap.objs.size (.tup [x, y])) { s with heap := h'', toks := tk } :=
      I.turnedNew (t' := tk) (ch := [z, TI, TO, i1, i2]) (fun c o hb q => (sb.2 c (fun q' => hb (by simp [q']))).trans (hk c o (fun q' => hb (by simp [q'])) (fun q' => hb (by simp [q'])) (fun q' => hb (by simp [q'])) (fun q' => hb (by simp [q'])) q)) hf (Nat.le_refl _) new
    refine ⟨.ref s.heap.objs.size, _, I1, rfl, ⟨_, x, y, rfl, I.hok.fresh (Nat.le_refl _), rfl, fun l hl => by rw [seqB_inj I hl hqx]; exact hx, fun l hl => by rw [seqB_inj I hl hqy]; exact hy⟩, ⟨z'', ?_, ⟨u', u2', ?_⟩, ?_, ?_⟩, fun c hcm => ?_⟩
    · exact (sb.2 _ D.TIz).trans (hk _ _ D.TIz D.TITO D.TIi1 D.TIi2 hTI)
    · exact (sb.2 _ D.TOz).trans TO'
    · exact h1'.1.at fun o q => (sb.2 _ D.i1z).trans q
    · exact h2'.1.at fun o q => (sb.2 _ D.i2z).trans q
    · have hlt : c < s.heap.objs.size := by
        have e' : c = z ∨ c = TI ∨ c = TO ∨ c = i1 ∨ c = i2 := by simpa using hcm
        rcases e' with q | q | q | q | q
        · rw [q]; exact hzl
        · rw [q]; exact Heap.lt_size hTI
        · rw [q]; exact Heap.lt_size hTO
        · rw [q]; obtain ⟨_, e1, _⟩ := h1.obj; exact Heap.lt_size e1
        · rw [q]; obtain ⟨_, e1, _⟩ := h2.obj; exact Heap.lt_size e1
      rw [upd_ne (Nat.ne_of_lt hlt)]
      exact (hf c hcm).1
  done := by
    intro X hP hw hK hc i pins s σ H E I hf st hg
    subst hP hw hK
    obtain ⟨hz, hTI, ⟨x0, y0, hTO⟩, h1, h2⟩ := st
    obtain ⟨xs, ys, hqx, hqy, le1, le2, hend⟩ := hg
    obtain ⟨its, rv, p1⟩ := seqB I hqx
    obtain ⟨its2, rv2, p2⟩ := seqB I hqy
    have l1 := rv.length
    have l2 := rv2.length
    have hh : X.A.in1.handled = none := I.ok.hd hc
    have s1 : its.toArray.size = its.length := by simp
    have s2 : its2.toArray.size = its2.length := by simp
    refine wpAny_pyNext_zipD2_end (sepB D) (drawsB p hh i1 a D.l1i1 its.toArray) (drawsB q hh i2 b D.l2i2 its2.toArray) hz hTI hTO ⟨h1, p1⟩ ⟨h2, p2⟩ (by rw [s1]; omega) (by rw [s2]; omega) (by rw [s1, s2]; omega) fun h' tk hk => ⟨rfl, I.turnedL (t' := tk) (ch := [z, TI, TO, i1, i2]) (fun c o hb q =>
      hk c o (fun q' => hb (by simp [q'])) (fun q' => hb (by simp [q'])) (fun q' => hb (by simp [q'])) (fun q' => hb (by simp [q'])) q) hf⟩
  self := fun A i s Q E st h => wpAny_pyIter_zip st.1 h
def iZipB (K : PySem.W.Frag) (ta : TA) : TI := fun σ H R => ta σ H fun vs H1 => ∃ p q a b xs ys, vs = [.ref a, .ref b] ∧ SqB p K H1 a xs ∧ SqB q K H1 b ys ∧ R (ItzB p q K a b) H1
theorem pi_zipB {X : Cx} {e e2 : Expr} {ta : TA} {p pos tpos : Pos} {elts : List Expr} {kk : Nat} (hg : Gl X "zip") (hm : X.mg "zip" = none) (ha : PA X [e, e2] ta)
    (hs : starEach [e, e2] X.env = (false, eval e X.env) :: starEach [e2] X.env := by rfl) (hpl : (backTo pos (starEach [e2] X.env)).any (·.1) = false := by rfl) :
    PI X (.Tuple elts kk tpos) (.Call (.Name "zip" p) [e, e2] [] pos) (iZipB X.K ta) := by
  refine ⟨fun pins s σ H R I h => ?_⟩
  refine Call_ (ld_blt I hg hm PyProof.Rows.boot_zip (PyProof.Rows.callWith_type1 (thn (ha.run pos pins s σ H _ I h) fun us s1 ⟨vs, H1, I1, r1, q1⟩ => ?_) hs hpl))
  obtain ⟨p, q, a, b, xs, ys, ex, hqx, hqy, g⟩ := q1
  subst ex
  cases r1 with
  | cons r rr =>
    cases rr with
    | cons r' rr =>
      cases rr
      cases r
      cases r'
      have fresh5 : ∀ c, c ∈ [s1.heap.objs.size + 4, s1.heap.objs.size + 2, s1.heap.objs.size + 3, s1.heap.objs.size, s1.heap.objs.size + 1] → FpOk X pins H1 c := fun c hcm => by
        have e' : c = s1.heap.objs.size + 4 ∨ c = s1.heap.objs.size + 2 ∨ c = s1.heap.objs.size + 3 ∨ c = s1.heap.objs.size ∨ c = s1.heap.objs.size + 1 := by simpa using hcm
        have hle : s1.heap.objs.size ≤ c := by
          rcases e' with z | z | z | z | z
          · rw [z]; exact Nat.le_add_right _ _
          · rw [z]; exact Nat.le_add_right _ _
          · rw [z]; exact Nat.le_add_right _ _
          · rw [z]; exact Nat.le_refl _
          · rw [z]; exact Nat.le_add_right _ _
        exact I1.fpOk hle (I1.hok.fresh hle)
      obtain ⟨its, rv, p1⟩ := seqB I1 hqx
      obtain ⟨its2, rv2, p2⟩ := seqB I1 hqy
      refine zip_begins2 (beginsB p a its.toArray) (beginsB q b its2.toArray) p1 p2 fun h' hz hTI hTO h1 h2 hsz hk => wpAny_pyIter_zip hz ?_
      have I2 : Inv X pins σ H1 { s1 with heap := h' } := I1.kept (t' := s1.toks) hk
      exact ⟨s1.heap.objs.size + 4, [s1.heap.objs.size + 4, s1.heap.objs.size + 2, s1.heap.objs.size + 3, s1.heap.objs.size, s1.heap.objs.size + 1], _, _, H1, rfl, I2, turn_zipB p q (PySem.W.ktu_apart s1.heap.objs.size a b p1.lt p2.lt), ⟨hz, hTI, ⟨_, _, hTO⟩, itB_of h1, itB_of h2⟩, fresh5, g⟩
/-- a comprehension over zip of two rows alike in length -/
theorem lc_zipB {p q : Bool} {K : PySem.W.Frag} {a b : Addr} {xs ys : List V} {g : TG} {tt : TT} {te : TE} {vs : List Nat} {σ : L2.St} {H1 : Hp} {D : Addr} {Qd : Hp → Prop} (hl : xs.length = ys.length) (Pv : Nat → Hp → Prop) (h0 : Pv 0 (upd H1 D (.lst [])))
    (hq : ∀ i H, Pv i H → SqB p K H a xs ∧ SqB q K H b ys)
    (hs : ∀ (i : Nat) (x y : V) (T : Addr) (H : Hp), xs[i]? = some x → ys[i]? = some y → Pv i H → H T = none → g (.ref T) (wipe σ vs) (upd H T (.tup [x, y])) fun σ2 H2 => wipe σ2 vs = wipe σ vs ∧ tt σ2 H2 fun b H3 =>
      if b = true then te σ2 H3 fun y H4 => ∃ acc, H4 D = some (.lst acc) ∧ acc.length < sizeLine ∧ Pv (i + 1) (upd H4 D (.lst (acc ++ [y]))) else Pv (i + 1) H3) (hd : ∀ H, Pv xs.length H → Qd H) :
    ∃ W : Nat → Nat → Hp → Prop, (∃ m, W 0 m (upd H1 D (.lst []))) ∧ ∀ i m H, W i m H →
      (((ItzB p q K a b).stop i H ∧ Qd H) ∨ ((ItzB p q K a b).go i H ∧ ∃ Nx : Hp → Prop, (∀ H', Nx H' → ∃ m', m' < m ∧ W (i + 1) m' H') ∧ ∀ x H', (ItzB p q K a b).yld i H x H' → g x (wipe σ vs) H' fun σ2 H2 => wipe σ2 vs = wipe σ vs ∧ tt σ2 H2 fun b H3 =>
        if b = true then te σ2 H3 fun y H4 => ∃ acc, H4 D = some (.lst acc) ∧ acc.length < sizeLine ∧ Nx (upd H4 D (.lst (acc ++ [y]))) else Nx H3)) := by
  refine ⟨fun i m H => m = xs.length - i ∧ i ≤ xs.length ∧ Pv i H, ⟨xs.length, by simp, Nat.zero_le _, h0⟩, ?_⟩
  rintro i m H ⟨rfl, hi, pv⟩
  obtain ⟨qx, qy⟩ := hq i H pv
  by_cases hlt : i < xs.length
  · have hx : xs[i]? = some xs[i] := List.getElem?_eq_getElem hlt
    have hlt2 : i < ys.length := by omega
    have hy : ys[i]? = some ys[i] := List.getElem?_eq_getElem hlt2
    refine .inr ⟨⟨xs, ys, xs[i], ys[i], qx, qy, hx, hy⟩, Pv (i + 1), fun H' p' => ⟨xs.length - (i + 1), by omega, rfl, hlt, p'⟩, fun v H' y => ?_⟩
    obtain ⟨T, x', y', e1, n, e2, h1, h2⟩ := y
    rw [e1, e2]
    exact hs i x' y' T H (h1 xs qx) (h2 ys qy) pv n
  · have e : i = xs.length := by omega
    subst e
    exact .inl ⟨⟨xs, ys, qx, qy, Nat.le_refl _, by omega, .inl rfl⟩, hd H pv⟩
/-- a loop over zip of two rows alike in length -/
theorem for_zipB {p q : Bool} {K : PySem.W.Frag} {a b : Addr} {xs ys : List V} {g : TG} {tb : TS} {D : Ends} {σ : L2.St} {H : Hp} (hl : xs.length = ys.length) (Pv : Nat → L2.St → Hp → Prop) (h0 : Pv 0 σ H) (hq : ∀ i σ H, Pv i σ H → SqB p K H a xs ∧ SqB q K H b ys)
    (hs : ∀ (i : Nat) (x y : V) (T : Addr) (σ : L2.St) (H : Hp), xs[i]? = some x → ys[i]? = some y → Pv i σ H → H T = none → g (.ref T) σ (upd H T (.tup [x, y])) fun σ2 H2 => tb { D with nx := Pv (i + 1), ct := Pv (i + 1), bk := D.nx } σ2 H2) (hd : ∀ σ H, Pv xs.length σ H → D.nx σ H) :
    ∃ W : Nat → Nat → L2.St → Hp → Prop, (∃ m, W 0 m σ H) ∧ ∀ i m σ H, W i m σ H →
      ((ItzB p q K a b).stop i H ∧ D.nx σ H) ∨ ((ItzB p q K a b).go i H ∧ ∃ N : L2.St → Hp → Prop, (∀ σ' H', N σ' H' → ∃ m', m' < m ∧ W (i + 1) m' σ' H') ∧ ∀ v H', (ItzB p q K a b).yld i H v H' → g v σ H' fun σ2 H2 => tb { D with nx := N, ct := N, bk := D.nx } σ2 H2) := by
  refine ⟨fun i m σ H => m = xs.length - i ∧ i ≤ xs.length ∧ Pv i σ H, ⟨xs.length, rfl, Nat.zero_le _, h0⟩, ?_⟩
  rintro i m σ H ⟨rfl, hi, pv⟩
  obtain ⟨qx, qy⟩ := hq i σ H pv
  by_cases hlt : i < xs.length
  · have hx : xs[i]? = some xs[i] := List.getElem?_eq_getElem hlt
    have hlt2 : i < ys.length := by omega
    have hy : ys[i]? = some ys[i] := List.getElem?_eq_getElem hlt2
    refine .inr ⟨⟨xs, ys, _, _, qx, qy, hx, hy⟩, Pv (i + 1), fun σ' H' p' => ⟨xs.length - (i + 1), by omega, rfl, hlt, p'⟩, fun v H' y => ?_⟩
    obtain ⟨T, x', y', rfl, hT, rfl, f1, f2⟩ := y
    exact hs i x' y' T σ H (f1 xs qx) (f2 ys qy) pv hT
  · have e : i = xs.length := by omega
    subst e
    exact .inl ⟨⟨xs, ys, qx, qy, Nat.le_refl _, by omega, .inl rfl⟩, hd σ H pv⟩
/-! ### enumerate -/
def IteB (p : Bool) (K : PySem.W.Frag) (a : Addr) : It :=
  ⟨fun i H => ∃ (xs : List V) (x : V), SqB p K H a xs ∧ xs[i]? = some x, fun i H v H' => ∃ T x, v = .ref T ∧ H T = none ∧ H' = upd H T (.tup [.int (i : Nat), x]) ∧ ∀ xs, SqB p K H a xs → xs[i]? = some x, fun i H => ∃ xs : List V, SqB p K H a xs ∧ xs.length = i⟩
theorem turn_enumB {P : Program} {w : World} {K : PySem.W.Frag} {elts : List Expr} {kk : Nat} {tpos : Pos} (p : Bool) (a e it : Addr) (hae : a ≠ e) (hai : a ≠ it) :
    Turn P w K (.Tuple elts kk tpos) (IteB p K a) [e, it] e (fun i h => (∃ old, IsEnum h e it ((i : Nat) : Int) old) ∧ ItB p h it a i ∧ e ≠ it) where
  mem := by simp
  obj := fun i h st b hb => by
    obtain ⟨⟨old, he⟩, h1, _⟩ := st
    have e' : b = e ∨ b = it := by simpa using hb
    rcases e' with z | z
    · rw [z]; exact ⟨_, he, fun v q => nomatch q⟩
    · rw [z]; exact h1.obj
  keep := fun i h h' st k => let ⟨⟨old, he⟩, hi, hne⟩ := st; ⟨⟨old, k e (by simp) _ he⟩, hi.at fun o q => k it (by simp) o q, hne⟩
  item := by
    intro X hP hw hK hc i pins s σ H E I hf st hg
    subst hP hw hK
    obtain ⟨⟨old, he⟩, hit, hne⟩ := st
    obtain ⟨xs, x, hq, hx⟩ := hg
    obtain ⟨its, rv, p1⟩ := seqB I hq
    obtain ⟨u, hu, ru⟩ := rv.get hx
    have hel : e < s.heap.objs.size := Heap.lt_size he
    have hil : it < s.heap.objs.size := by obtain ⟨_, q, _⟩ := hit.obj; exact Heap.lt_size q
    have hh : X.A.in1.handled = none := I.ok.hd hc
    have l1 : i < its.toArray.size := by
      have := (List.getElem?_eq_some_iff.mp hu).1
      simpa using this
    refine wpAny_pyNext_enum_itemD (drawsB p hh it a hai its.toArray) he ⟨hit, p1⟩ l1 hne (by simp [hne, hae.symm]) fun u' h' tk e1 ho hit' hT hsz hk => ?_
    have eu : u' = u := by
      rw [List.getElem?_toArray, hu] at e1
      exact (Option.some.inj e1).symm
    subst eu
    refine ⟨_, rfl, wpAny_letOwnedTupleGo_enum (s := { s with heap := h', toks := tk + 1 }) ho fun h'' he' sb => ?_⟩
    have hT2 : h''.get? s.heap.objs.size = some { cls := .type "tuple", data := .seq #[.int i tk, u'] } := (sb.2 _ (Nat.ne_of_gt hel)).trans hT
    have new : ObjOk X.prog X.w (upd H s.heap.objs.size (.tup [.int (i : Nat), x])) h'' s.heap.objs.size (.tup [.int (i : Nat), x]) :=
      ⟨by show 2 ≤ sizeLine; decide, [.int i tk, u'], .cons ⟨_, rfl⟩ (.cons ru .nil), ⟨_, hT2, rfl, _, rfl⟩⟩
    have I1 : Inv X pins σ (upd H s.heap.objs.size (.tup [.int (i : Nat), x])) { s with heap := h'', toks := tk + 1 } :=
      I.turnedNew (ch := [e, it]) (fun b ob hb q => (sb.2 b (fun z => hb (by simp [z]))).trans (hk b ob (fun z => hb (by simp [z])) (fun z => hb (by simp [z])) q)) hf (Nat.le_refl _) new
    refine ⟨.ref s.heap.objs.size, _, I1, rfl, ⟨_, x, rfl, I.hok.fresh (Nat.le_refl _), rfl, fun ys hy => by rw [seqB_inj I hy hq]; exact hx⟩, ⟨⟨u', ?_⟩, hit'.1.at fun o q => (sb.2 it (Ne.symm hne)).trans q, hne⟩, fun b hb => ?_⟩
    · have e1 : ((i + 1 : Nat) : Int) = (i : Int) + 1 := by omega
      rw [e1]; exact he'
    · have hb' : b < s.heap.objs.size := by
        have e' : b = e ∨ b = it := by simpa using hb
        rcases e' with z | z
        · rw [z]; exact hel
        · rw [z]; exact hil
      rw [upd_ne (Nat.ne_of_lt hb')]
      exact (hf b hb).1
  done := by
    intro X hP hw hK hc i pins s σ H E I hf st hg
    subst hP hw hK
    obtain ⟨⟨old, he⟩, hit, hne⟩ := st
    obtain ⟨xs, hq, hx⟩ := hg
    obtain ⟨its, rv, p1⟩ := seqB I hq
    obtain ⟨f0, f1, f2, f3, f4, f5⟩ := hf it (by simp)
    have hl := rv.length
    have hh : X.A.in1.handled = none := I.ok.hd hc
    have s1 : its.toArray.size = i := by simp; omega
    refine wpAny_pyNext_enum_endD (drawsB p hh it a hai its.toArray) he (by rw [s1]; exact ⟨hit, p1⟩) fun h' eb => ⟨rfl, I.turned (t' := s.toks) (fun b o hb q => eb b o hb q) f0 f1 f3 f4 f5⟩
  self := fun A i s Q E st h => let ⟨⟨_, he⟩, _⟩ := st; wpAny_pyIter_enum he h
theorem meets_enumerate_newB1 {v : Value} {o : Obj} {H : Heap → Prop} (B : Begins v o H) :
    Meets (Builtin.«enumerate.__new__» ⟨[.type "enumerate", v], []⟩) (fun _ R s => H s.heap ∧
      R (.ok (.ret (.ref (s.heap.push o).objs.size))) { s with heap := (s.heap.push o).push { cls := .type "enumerate", data := .fields #[.none, .bool false, .ref s.heap.objs.size, rawInt 0, .none, .none] } }) :=
  .of_wp fun prog w A R s h => by
    obtain ⟨hp, g, d, tk, os⟩ := s; obtain ⟨h1, h⟩ := h
    have hsub := sub_enumerate
    have q1 : ∀ {A' : Around} {E : Value → Shared → Prop} {Q : Value → Shared → Prop}, Q (.ref hp.objs.size) ⟨hp.push o, g, d, tk, os⟩ → wpAny (model prog w) A' (pyIter v) Q E ⟨hp, g, d, tk, os⟩ :=
      fun q => B.iter prog w _ _ ⟨hp, g, d, tk, os⟩ _ h1 q
    wp_walk using q1
    first
      | exact ⟨_, rfl, h⟩
      | (refine wpAny_stack_any fun st => wpAny_pure ?_
         split
         · rename_i c _ _ _ _ _
           cases (c == Value.type "enumerate")
           · wp_walk using q1
             exact ⟨_, rfl, h⟩
           · wp_walk using q1
             exact ⟨_, rfl, h⟩
         · wp_walk using q1
           exact ⟨_, rfl, h⟩)
section
variable {prog : Program} {w : World} {A : Around} {E : Value → Shared → Prop} {s : Shared}
theorem enum_begins1 {v : Value} {o : Obj} {H : Heap → Prop} {Q : Value → Shared → Prop} (B : Begins v o H) (h1 : H s.heap)
    (h : ∀ h', IsEnum h' (s.heap.objs.size + 1) s.heap.objs.size 0 .none → h'.get? s.heap.objs.size = some o → h'.objs.size = s.heap.objs.size + 2 →
      (∀ b o, s.heap.get? b = some o → h'.get? b = some o) → Q (.ref (s.heap.objs.size + 1)) { s with heap := h' }) :
    wpAny (model prog w) A (call (.type "enumerate") [v]) Q E s := by
  refine callType_new F.called_enumerate (by decide) (F.typeCall_enumerate_1 _) (F.newCall_enumerate_1 _) (fun obj => F.args_object_init_2 obj _) F.entry_enumerate_new
    (meets_enumerate_newB1 B) ⟨h1, ?_⟩
  have hz : (s.heap.push o).objs.size = s.heap.objs.size + 1 := Heap.size_push ..
  show _ ∧ _
  rw [hz]
  have he : IsEnum ((s.heap.push o).push { cls := .type "enumerate", data := .fields #[.none, .bool false, .ref s.heap.objs.size, rawInt 0, .none, .none] }) (s.heap.objs.size + 1) s.heap.objs.size 0 .none := by
    have := Heap.get?_push_size (s.heap.push o) (o := { cls := .type "enumerate", data := .fields #[.none, .bool false, .ref s.heap.objs.size, rawInt 0, .none, .none] }) rfl
    rw [hz] at this; exact this
  refine ⟨⟨_, he, rfl⟩, h _ he (Heap.get?_push_of_some _ (Heap.get?_push_size _ B.free)) (by rw [Heap.size_push, hz]) fun b o x => Heap.get?_push_of_some _ (Heap.get?_push_of_some _ x)⟩
end
def iEnumB (K : PySem.W.Frag) (ta : TA) : TI := fun σ H R => ta σ H fun vs H1 => ∃ p a xs, vs = [.ref a] ∧ SqB p K H1 a xs ∧ R (IteB p K a) H1
theorem pi_enumB {X : Cx} {e : Expr} {ta : TA} {p pos tpos : Pos} {elts : List Expr} {kk : Nat} (hg : Gl X "enumerate") (hm : X.mg "enumerate" = none) (ha : PA X [e] ta) (hs : starEach [e] X.env = [(false, eval e X.env)] := by rfl) :
    PI X (.Tuple elts kk tpos) (.Call (.Name "enumerate" p) [e] [] pos) (iEnumB X.K ta) := by
  refine ⟨fun pins s σ H R I h => ?_⟩
  refine Call_ (ld_blt I hg hm boot_enumerate (PyProof.Rows.callWith_type1 (thn (ha.run pos pins s σ H _ I h) fun us s1 ⟨vs, H1, I1, r1, q1⟩ => ?_) hs rfl))
  obtain ⟨p, a, xs, ex, hq, q⟩ := q1
  subst ex
  cases r1 with
  | cons r rr =>
    cases rr
    cases r
    obtain ⟨its, rv, p1⟩ := seqB I1 hq
    have al := p1.lt
    refine enum_begins1 (beginsB p a its.toArray) p1 fun h' he hit hsz hk => wpAny_pyIter_enum he ?_
    have I2 : Inv X pins σ H1 { s1 with heap := h' } := I1.kept (t' := s1.toks) hk
    refine ⟨s1.heap.objs.size + 1, [s1.heap.objs.size + 1, s1.heap.objs.size], _, _, H1, rfl, I2, turn_enumB p a (s1.heap.objs.size + 1) s1.heap.objs.size (Nat.ne_of_lt (Nat.lt_of_lt_of_le al (Nat.le_add_right _ _))) (Nat.ne_of_lt al), ⟨⟨.none, he⟩, itB_of hit, Nat.succ_ne_self _⟩, fun b hb => ?_, q⟩
    have e' : b = s1.heap.objs.size + 1 ∨ b = s1.heap.objs.size := by simpa using hb
    have hle : s1.heap.objs.size ≤ b := by
      rcases e' with z | z
      · rw [z]; exact Nat.le_add_right _ _
      · rw [z]; exact Nat.le_refl _
    exact I1.fpOk hle (I1.hok.fresh hle)
/-- a comprehension over enumerate of a row -/
theorem lc_enumB {p : Bool} {K : PySem.W.Frag} {a : Addr} {xs : List V} {g : TG} {tt : TT} {te : TE} {vs : List Nat} {σ : L2.St} {H1 : Hp} {D : Addr} {Qd : Hp → Prop} (Pv : Nat → Hp → Prop) (h0 : Pv 0 (upd H1 D (.lst [])))
    (hq : ∀ i H, Pv i H → SqB p K H a xs)
    (hs : ∀ (i : Nat) (x : V) (T : Addr) (H : Hp), xs[i]? = some x → Pv i H → H T = none → g (.ref T) (wipe σ vs) (upd H T (.tup [.int (i : Nat), x])) fun σ2 H2 => wipe σ2 vs = wipe σ vs ∧ tt σ2 H2 fun b H3 =>
      if b = true then te σ2 H3 fun y H4 => ∃ acc, H4 D = some (.lst acc) ∧ acc.length < sizeLine ∧ Pv (i + 1) (upd H4 D (.lst (acc ++ [y]))) else Pv (i + 1) H3) (hd : ∀ H, Pv xs.length H → Qd H) :
    ∃ W : Nat → Nat → Hp → Prop, (∃ m, W 0 m (upd H1 D (.lst []))) ∧ ∀ i m H, W i m H →
      (((IteB p K a).stop i H ∧ Qd H) ∨ ((IteB p K a).go i H ∧ ∃ Nx : Hp → Prop, (∀ H', Nx H' → ∃ m', m' < m ∧ W (i + 1) m' H') ∧ ∀ x H', (IteB p K a).yld i H x H' → g x (wipe σ vs) H' fun σ2 H2 => wipe σ2 vs = wipe σ vs ∧ tt σ2 H2 fun b H3 =>
        if b = true then te σ2 H3 fun y H4 => ∃ acc, H4 D = some (.lst acc) ∧ acc.length < sizeLine ∧ Nx (upd H4 D (.lst (acc ++ [y]))) else Nx H3)) := by
  refine ⟨fun i m H => m = xs.length - i ∧ i ≤ xs.length ∧ Pv i H, ⟨xs.length, by simp, Nat.zero_le _, h0⟩, ?_⟩
  rintro i m H ⟨rfl, hi, pv⟩
  have qx := hq i H pv
  by_cases hlt : i < xs.length
  · have hx : xs[i]? = some xs[i] := List.getElem?_eq_getElem hlt
    refine .inr ⟨⟨xs, xs[i], qx, hx⟩, Pv (i + 1), fun H' p' => ⟨xs.length - (i + 1), by omega, rfl, hlt, p'⟩, fun v H' y => ?_⟩
    obtain ⟨T, x', e1, n, e2, h1⟩ := y
    rw [e1, e2]
    exact hs i x' T H (h1 xs qx) pv n
  · have e : i = xs.length := by omega
    subst e
    exact .inl ⟨⟨xs, qx, rfl⟩, hd H pv⟩
end Vf

set_option maxRecDepth 100000
set_option maxHeartbeats 4000000
/-! enumerate over a text -/
namespace Vf
open PySem PySem.Spec PyProof.Rows L2
def IteS (x : Str) : It :=
  ⟨fun i H => i < x.cps.size, fun i H v H' => ∃ T c, v = .ref T ∧ H T = none ∧ H' = upd H T (.tup [.int (i : Nat), .str ⟨#[c]⟩]) ∧ x.cps[i]? = some c, fun i H => x.cps.size = i⟩
theorem strIter_at {h h' : Heap} {it : Addr} {ty : String} {x : Str} {t : Tok} {i : Nat} (st : h.IsStrIter it ty x t i) (k : ∀ o, h.get? it = some o → h'.get? it = some o) : h'.IsStrIter it ty x t i := by
  obtain ⟨o, ho, r⟩ := st
  exact ⟨o, k o ho, r⟩
theorem strIter_obj {h : Heap} {it : Addr} {ty : String} {x : Str} {t : Tok} {i : Nat} (st : h.IsStrIter it ty x t i) : ∃ o, h.get? it = some o ∧ ∀ v, o.data ≠ .cell v := by
  obtain ⟨o, e, c, d⟩ := st
  exact ⟨o, e, fun v z => by rw [d] at z; cases z⟩
theorem turn_enumS {P : Program} {w : World} {K : PySem.W.Frag} {elts : List Expr} {kk : Nat} {tpos : Pos} (x : Str) (t : Tok) (e it : Addr) :
    Turn P w K (.Tuple elts kk tpos) (IteS x) [e, it] e (fun i h => (∃ old, IsEnum h e it ((i : Nat) : Int) old) ∧ h.IsStrIter it (strIterType x) x t i ∧ e ≠ it) where
  mem := by simp
  obj := fun i h st b hb => by
    obtain ⟨⟨old, he⟩, h1, _⟩ := st
    have e' : b = e ∨ b = it := by simpa using hb
    rcases e' with z | z
    · rw [z]; exact ⟨_, he, fun v q => nomatch q⟩
    · rw [z]; exact strIter_obj h1
  keep := fun i h h' st k => let ⟨⟨old, he⟩, hi, hne⟩ := st; ⟨⟨old, k e (by simp) _ he⟩, strIter_at hi fun o q => k it (by simp) o q, hne⟩
  item := by
    intro X hP hw hK hc i pins s σ H E I hf st hg
    subst hP hw hK
    obtain ⟨⟨old, he⟩, hit, hne⟩ := st
    have hel : e < s.heap.objs.size := Heap.lt_size he
    have hil : it < s.heap.objs.size := by obtain ⟨_, q, _⟩ := strIter_obj hit; exact Heap.lt_size q
    have hh : X.A.in1.handled = none := I.ok.hd hc
    refine wpAny_pyNext_enum_itemD (Draws.text hh it x t) he hit hg hne (by simp [hne]) fun u' h' tk e1 ho hit' hT hsz hk => ?_
    obtain ⟨c, u, hcx, rfl⟩ := e1
    refine ⟨_, rfl, wpAny_letOwnedTupleGo_enum (s := { s with heap := h', toks := tk + 1 }) ho fun h'' he' sb => ?_⟩
    have hT2 : h''.get? s.heap.objs.size = some { cls := .type "tuple", data := .seq #[.int i tk, .str ⟨#[c]⟩ u] } := (sb.2 _ (Nat.ne_of_gt hel)).trans hT
    have new : ObjOk X.prog X.w (upd H s.heap.objs.size (.tup [.int (i : Nat), .str ⟨#[c]⟩])) h'' s.heap.objs.size (.tup [.int (i : Nat), .str ⟨#[c]⟩]) :=
      ⟨by show 2 ≤ sizeLine; decide, [.int i tk, .str ⟨#[c]⟩ u], .cons ⟨_, rfl⟩ (.cons ⟨_, rfl⟩ .nil), ⟨_, hT2, rfl, _, rfl⟩⟩
    have I1 : Inv X pins σ (upd H s.heap.objs.size (.tup [.int (i : Nat), .str ⟨#[c]⟩])) { s with heap := h'', toks := tk + 1 } :=
      I.turnedNew (ch := [e, it]) (fun b ob hb q => (sb.2 b (fun z => hb (by simp [z]))).trans (hk b ob (fun z => hb (by simp [z])) (fun z => hb (by simp [z])) q)) hf (Nat.le_refl _) new
    refine ⟨.ref s.heap.objs.size, _, I1, rfl, ⟨_, c, rfl, I.hok.fresh (Nat.le_refl _), rfl, hcx⟩, ⟨⟨.str ⟨#[c]⟩ u, ?_⟩, strIter_at hit' fun o q => (sb.2 it (Ne.symm hne)).trans q, hne⟩, fun b hb => ?_⟩
    · have e1 : ((i + 1 : Nat) : Int) = (i : Int) + 1 := by omega
      rw [e1]; exact he'
    · have hb' : b < s.heap.objs.size := by
        have e' : b = e ∨ b = it := by simpa using hb
        rcases e' with z | z
        · rw [z]; exact hel
        · rw [z]; exact hil
      rw [upd_ne (Nat.ne_of_lt hb')]
      exact (hf b hb).1
  done := by
    intro X hP hw hK hc i pins s σ H E I hf st hg
    subst hP hw hK
    obtain ⟨⟨old, he⟩, hit, hne⟩ := st
    obtain ⟨f0, f1, f2, f3, f4, f5⟩ := hf it (by simp)
    have hh : X.A.in1.handled = none := I.ok.hd hc
    refine wpAny_pyNext_enum_endD (Draws.text hh it x t) he (by rw [show x.cps.size = i from hg]; exact hit) fun h' eb => ⟨rfl, I.turned (t' := s.toks) (fun b o hb q => eb b o hb q) f0 f1 f3 f4 f5⟩
  self := fun A i s Q E st h => let ⟨⟨_, he⟩, _⟩ := st; wpAny_pyIter_enum he h
def iEnumS (ta : TA) : TI := fun σ H R => ta σ H fun vs H1 => ∃ x, vs = [.str x] ∧ R (IteS x) H1
theorem pi_enumS {X : Cx} {e : Expr} {ta : TA} {p pos tpos : Pos} {elts : List Expr} {kk : Nat} (hg : Gl X "enumerate") (hm : X.mg "enumerate" = none) (ha : PA X [e] ta) (hs : starEach [e] X.env = [(false, eval e X.env)] := by rfl) :
    PI X (.Tuple elts kk tpos) (.Call (.Name "enumerate" p) [e] [] pos) (iEnumS ta) := by
  refine ⟨fun pins s σ H R I h => ?_⟩
  refine Call_ (ld_blt I hg hm boot_enumerate (PyProof.Rows.callWith_type1 (thn (ha.run pos pins s σ H _ I h) fun us s1 ⟨vs, H1, I1, r1, q1⟩ => ?_) hs rfl))
  obtain ⟨x, ex, q⟩ := q1
  subst ex
  cases r1 with
  | cons r rr =>
    cases rr
    obtain ⟨t, rfl⟩ := r
    refine call_enumerate_str fun h' he hit hsz hk => wpAny_pyIter_enum he ?_
    have I2 : Inv X pins σ H1 { s1 with heap := h' } := I1.kept (t' := s1.toks) hk
    refine ⟨s1.heap.objs.size + 1, [s1.heap.objs.size + 1, s1.heap.objs.size], _, _, H1, rfl, I2, turn_enumS x t (s1.heap.objs.size + 1) s1.heap.objs.size, ⟨⟨.none, he⟩, hit, Nat.succ_ne_self _⟩, fun b hb => ?_, q⟩
    have e' : b = s1.heap.objs.size + 1 ∨ b = s1.heap.objs.size := by simpa using hb
    have hle : s1.heap.objs.size ≤ b := by
      rcases e' with z | z
      · rw [z]; exact Nat.le_add_right _ _
      · rw [z]; exact Nat.le_refl _
    exact I1.fpOk hle (I1.hok.fresh hle)
/-- a loop over enumerate of a text -/
theorem for_enumS {x : Str} {g : TG} {tb : TS} {D : Ends} {σ : L2.St} {H : Hp} (Pv : Nat → L2.St → Hp → Prop) (h0 : Pv 0 σ H)
    (hs : ∀ (i c : Nat) (T : Addr) (σ : L2.St) (H : Hp), x.cps[i]? = some c → Pv i σ H → H T = none → g (.ref T) σ (upd H T (.tup [.int (i : Nat), .str ⟨#[c]⟩])) fun σ2 H2 => tb { D with nx := Pv (i + 1), ct := Pv (i + 1), bk := D.nx } σ2 H2) (hd : ∀ σ H, Pv x.cps.size σ H → D.nx σ H) :
    ∃ W : Nat → Nat → L2.St → Hp → Prop, (∃ m, W 0 m σ H) ∧ ∀ i m σ H, W i m σ H →
      ((IteS x).stop i H ∧ D.nx σ H) ∨ ((IteS x).go i H ∧ ∃ N : L2.St → Hp → Prop, (∀ σ' H', N σ' H' → ∃ m', m' < m ∧ W (i + 1) m' σ' H') ∧ ∀ v H', (IteS x).yld i H v H' → g v σ H' fun σ2 H2 => tb { D with nx := N, ct := N, bk := D.nx } σ2 H2) := by
  refine ⟨fun i m σ H => m = x.cps.size - i ∧ i ≤ x.cps.size ∧ Pv i σ H, ⟨x.cps.size, rfl, Nat.zero_le _, h0⟩, ?_⟩
  rintro i m σ H ⟨rfl, hi, pv⟩
  by_cases hlt : i < x.cps.size
  · refine .inr ⟨hlt, Pv (i + 1), fun σ' H' p' => ⟨x.cps.size - (i + 1), by omega, rfl, hlt, p'⟩, fun v H' y => ?_⟩
    obtain ⟨T, c, rfl, hT, rfl, hc⟩ := y
    exact hs i c T σ H hc pv hT
  · have e : i = x.cps.size := by omega
    subst e
    exact .inl ⟨rfl, hd σ H pv⟩
end Vf

set_option maxRecDepth 100000
set_option maxHeartbeats 4000000
/-! slices of lists and tuples alike; zip of rows of any lengths, of three rows -/
namespace Vf
open PySem PySem.Spec PyProof.Rows L2
def rSlQ (K : PySem.W.Frag) : V → Option Int → Option Int → Hp → VK → Prop := fun x lo hi H Q => ∃ p a xs, x = .ref a ∧ SqB p K H a xs ∧ ∀ b H', Same H H' → SqB p K H' b (cutV xs lo hi) → Q (.ref b) H'
theorem same_new {H : Hp} {p : Addr} {o : HO} (n : H p = none) : Same H (upd H p o) := fun b u e => by rw [upd_ne (ne_of_none e n)]; exact e
theorem sl_seq {X : Cx} : SlR X (rSlQ X.K) := by
  intro pins s σ H x v vl vu lo hi sl Q I rx hs pl pu h
  obtain ⟨p, a, xs, rfl, hq, q⟩ := h
  cases p with
  | false =>
    refine sl_tupA pins s σ H _ v vl vu lo hi sl Q I rx hs pl pu ⟨a, xs, rfl, hq, fun hw => ?_, fun _ t nt => q t _ (same_new nt) (.inl (.inl upd_same))⟩
    refine q a H (Same.refl _) ?_
    have e : cutV xs lo hi = xs := by
      unfold cutV
      rw [hw.1, hw.2, Nat.sub_zero, List.drop_zero, List.take_length]
    rw [e]
    exact hq
  | true => exact sl_list pins s σ H _ v vl vu lo hi sl Q I rx hs pl pu ⟨a, xs, rfl, hq, fun t nt => q t _ (same_new nt) (.inl (.inl upd_same))⟩
/-- a comprehension over zip of two rows of any lengths -/
theorem lc_zipM {p q : Bool} {K : PySem.W.Frag} {a b : Addr} {xs ys : List V} {g : TG} {tt : TT} {te : TE} {vs : List Nat} {σ : L2.St} {H1 : Hp} {D : Addr} {Qd : Hp → Prop} (n : Nat) (hn : n = min xs.length ys.length) (Pv : Nat → Hp → Prop) (h0 : Pv 0 (upd H1 D (.lst [])))
    (hq : ∀ i H, Pv i H → SqB p K H a xs ∧ SqB q K H b ys)
    (hs : ∀ (i : Nat) (x y : V) (T : Addr) (H : Hp), i < n → xs[i]? = some x → ys[i]? = some y → Pv i H → H T = none → g (.ref T) (wipe σ vs) (upd H T (.tup [x, y])) fun σ2 H2 => wipe σ2 vs = wipe σ vs ∧ tt σ2 H2 fun b H3 =>
      if b = true then te σ2 H3 fun y H4 => ∃ acc, H4 D = some (.lst acc) ∧ acc.length < sizeLine ∧ Pv (i + 1) (upd H4 D (.lst (acc ++ [y]))) else Pv (i + 1) H3) (hd : ∀ H, Pv n H → Qd H) :
    ∃ W : Nat → Nat → Hp → Prop, (∃ m, W 0 m (upd H1 D (.lst []))) ∧ ∀ i m H, W i m H →
      (((ItzB p q K a b).stop i H ∧ Qd H) ∨ ((ItzB p q K a b).go i H ∧ ∃ Nx : Hp → Prop, (∀ H', Nx H' → ∃ m', m' < m ∧ W (i + 1) m' H') ∧ ∀ x H', (ItzB p q K a b).yld i H x H' → g x (wipe σ vs) H' fun σ2 H2 => wipe σ2 vs = wipe σ vs ∧ tt σ2 H2 fun b H3 =>
        if b = true then te σ2 H3 fun y H4 => ∃ acc, H4 D = some (.lst acc) ∧ acc.length < sizeLine ∧ Nx (upd H4 D (.lst (acc ++ [y]))) else Nx H3)) := by
  refine ⟨fun i m H => m = n - i ∧ i ≤ n ∧ Pv i H, ⟨n, by simp, Nat.zero_le _, h0⟩, ?_⟩
  rintro i m H ⟨rfl, hi, pv⟩
  obtain ⟨qx, qy⟩ := hq i H pv
  by_cases hlt : i < n
  · have h1 : i < xs.length := by omega
    have h2 : i < ys.length := by omega
    have hx : xs[i]? = some xs[i] := List.getElem?_eq_getElem h1
    have hy : ys[i]? = some ys[i] := List.getElem?_eq_getElem h2
    refine .inr ⟨⟨xs, ys, xs[i], ys[i], qx, qy, hx, hy⟩, Pv (i + 1), fun H' p' => ⟨n - (i + 1), by omega, rfl, hlt, p'⟩, fun v H' y => ?_⟩
    obtain ⟨T, x', y', e1, m, e2, h1, h2⟩ := y
    rw [e1, e2]
    exact hs i x' y' T H hlt (h1 xs qx) (h2 ys qy) pv m
  · have e : i = n := by omega
    subst e
    exact .inl ⟨⟨xs, ys, qx, qy, by omega, by omega, by omega⟩, hd H pv⟩
/-! ### three rows -/
def Itz3 (p q r : Bool) (K : PySem.W.Frag) (a b c : Addr) : It :=
  ⟨fun i H => ∃ (xs ys ws : List V) (x y w : V), SqB p K H a xs ∧ SqB q K H b ys ∧ SqB r K H c ws ∧ xs[i]? = some x ∧ ys[i]? = some y ∧ ws[i]? = some w,
    fun i H v H' => ∃ T x y w, v = .ref T ∧ H T = none ∧ H' = upd H T (.tup [x, y, w]) ∧ (∀ xs, SqB p K H a xs → xs[i]? = some x) ∧ (∀ ys, SqB q K H b ys → ys[i]? = some y) ∧ ∀ ws, SqB r K H c ws → ws[i]? = some w,
    fun i H => ∃ xs ys ws : List V, SqB p K H a xs ∧ SqB q K H b ys ∧ SqB r K H c ws ∧ i ≤ xs.length ∧ i ≤ ys.length ∧ i ≤ ws.length ∧ (xs.length = i ∨ ys.length = i ∨ ws.length = i)⟩
/-- the cells of a zip of three, the first one at n, over rows that stood before -/
theorem sep3 {n a b c : Addr} (ha : a < n) (hb : b < n) (hc : c < n) : ZipSep3 (n + 5) (n + 3) (n + 4) n (n + 1) (n + 2) [n, a] [n + 1, b] [n + 2, c] := by
  have up : ∀ {x : Addr} (k : Nat), x < n → n + k ≠ x := fun {x} k h => Nat.ne_of_gt (Nat.lt_of_lt_of_le h (Nat.le_add_right n k))
  have d : ∀ {i j : Nat}, i < j → n + i ≠ n + j := fun {i j} h => Nat.ne_of_lt (Nat.add_lt_add_left h n)
  have z : ∀ {j : Nat}, 0 < j → n + j ≠ n := fun {j} h => Nat.ne_of_gt (Nat.lt_add_of_pos_right h)
  have no : ∀ {x y w : Addr}, x ≠ y → x ≠ w → x ∉ [y, w] := fun {x y w} h1 h2 h => by
    rcases List.mem_cons.mp h with h | h
    · exact h1 h
    · exact h2 (List.mem_singleton.mp h)
  exact {
    TIz := d (by decide)
    TOz := d (by decide)
    TITO := d (by decide)
    TIi1 := z (by decide)
    mem1 := List.mem_cons_self ..
    zf1 := no (z (by decide)) (up 5 ha)
    Tf1 := no (z (by decide)) (up 4 ha)
    TIi2 := (d (by decide)).symm
    mem2 := List.mem_cons_self ..
    zf2 := no (d (by decide)).symm (up 5 hb)
    Tf2 := no (d (by decide)).symm (up 4 hb)
    TIi3 := (d (by decide)).symm
    mem3 := List.mem_cons_self ..
    zf3 := no (d (by decide)).symm (up 5 hc)
    Tf3 := no (d (by decide)).symm (up 4 hc)
    sep1_2 := no (z (by decide)).symm (Nat.ne_of_gt hb)
    sep1_3 := no (z (by decide)).symm (Nat.ne_of_gt hc)
    sep2_1 := no (z (by decide)) (up 1 ha)
    sep2_3 := no (d (by decide)) (up 1 hc)
    sep3_1 := no (z (by decide)) (up 2 ha)
    sep3_2 := no (d (by decide)).symm (up 2 hb) }
theorem turn_zip3 {P : Program} {w : World} {K : PySem.W.Frag} {elts : List Expr} {kk : Nat} {tpos : Pos} (p q r : Bool) {n a b c : Addr} (ha : a < n) (hb : b < n) (hc : c < n) :
    Turn P w K (.Tuple elts kk tpos) (Itz3 p q r K a b c) [n + 5, n + 3, n + 4, n, n + 1, n + 2] (n + 5) (fun i h => IsZip h (n + 5) (n + 3) (n + 4) .none ∧ IsTupOf3 h (n + 3) (.ref n) (.ref (n + 1)) (.ref (n + 2)) ∧ (∃ x y z, IsTupOf3 h (n + 4) x y z) ∧ ItB p h n a i ∧ ItB q h (n + 1) b i ∧ ItB r h (n + 2) c i) where
  mem := by simp
  obj := fun i h st d hd => by
    obtain ⟨hz, hTI, ⟨x, y, z, hTO⟩, h1, h2, h3⟩ := st
    have e' : d = n + 5 ∨ d = n + 3 ∨ d = n + 4 ∨ d = n ∨ d = n + 1 ∨ d = n + 2 := by simpa using hd
    rcases e' with q | q | q | q | q | q
    · rw [q]; exact ⟨_, hz, fun v q => nomatch q⟩
    · rw [q]; exact ⟨_, hTI, fun v q => nomatch q⟩
    · rw [q]; exact ⟨_, hTO, fun v q => nomatch q⟩
    · rw [q]; exact h1.obj
    · rw [q]; exact h2.obj
    · rw [q]; exact h3.obj
  keep := fun i h h' st k => by
    obtain ⟨hz, hTI, ⟨x, y, z, hTO⟩, h1, h2, h3⟩ := st
    exact ⟨k _ (by simp) _ hz, k _ (by simp) _ hTI, ⟨x, y, z, k _ (by simp) _ hTO⟩, h1.at fun o q => k _ (by simp) o q, h2.at fun o q => k _ (by simp) o q, h3.at fun o q => k _ (by simp) o q⟩
  item := by
    intro X hP hw hK hcm i pins s σ H E I hf st hg
    subst hP hw hK
    obtain ⟨hz, hTI, ⟨x0, y0, z0, hTO⟩, h1, h2, h3⟩ := st
    obtain ⟨xs, ys, ws, x, y, w', hqx, hqy, hqw, hx, hy, hw'⟩ := hg
    obtain ⟨its, rv, p1⟩ := seqB I hqx
    obtain ⟨its2, rv2, p2⟩ := seqB I hqy
    obtain ⟨its3, rv3, p3⟩ := seqB I hqw
    obtain ⟨u, hu, ru⟩ := rv.get hx
    obtain ⟨u2, hu2, ru2⟩ := rv2.get hy
    obtain ⟨u3, hu3, ru3⟩ := rv3.get hw'
    have hzl : n + 5 < s.heap.objs.size := Heap.lt_size hz
    have hh : X.A.in1.handled = none := I.ok.hd hcm
    have lt : ∀ {l : List Value} {v : Value}, l[i]? = some v → i < l.toArray.size := fun h => by
      have := (List.getElem?_eq_some_iff.mp h).1
      simpa using this
    have na : a ≠ n := Nat.ne_of_lt ha
    have nb : b ≠ n + 1 := Nat.ne_of_lt (Nat.lt_succ_of_lt hb)
    have nc : c ≠ n + 2 := Nat.ne_of_lt (Nat.lt_of_lt_of_le hc (Nat.le_add_right _ _))
    refine wpAny_pyNext_zipD3_item (sep3 ha hb hc) (drawsB p hh n a na its.toArray) (drawsB q hh (n + 1) b nb its2.toArray) (drawsB r hh (n + 2) c nc its3.toArray) hz hTI hTO ⟨h1, p1⟩ ⟨h2, p2⟩ ⟨h3, p3⟩ (lt hu) (lt hu2) (lt hu3) fun u' u2' u3' h' tk e1 e2 e3 z' TO' h1' h2' h3' hT hsz hk => ?_
    have eu : u' = u := by
      rw [List.getElem?_toArray, hu] at e1
      exact (Option.some.inj e1).symm
    have eu2 : u2' = u2 := by
      rw [List.getElem?_toArray, hu2] at e2
      exact (Option.some.inj e2).symm
    have eu3 : u3' = u3 := by
      rw [List.getElem?_toArray, hu3] at e3
      exact (Option.some.inj e3).symm
    subst eu eu2 eu3
    refine ⟨_, rfl, wpAny_letOwnedTupleGo_zip (s := { s with heap := h', toks := tk }) z' fun h'' z'' sb => ?_⟩
    have hT2 : h''.get? s.heap.objs.size = some { cls := .type "tuple", data := .seq #[u', u2', u3'] } := (sb.2 _ (Nat.ne_of_gt hzl)).trans hT
    have new : ObjOk X.prog X.w (upd H s.heap.objs.size (.tup [x, y, w'])) h'' s.heap.objs.size (.tup [x, y, w']) :=
      ⟨by show 3 ≤ sizeLine; decide, [u', u2', u3'], .cons ru (.cons ru2 (.cons ru3 .nil)), ⟨_, hT2, rfl, _, rfl⟩⟩
    have I1 : Inv X pins σ (upd H s.heap.objs.size (.tup [x, y, w'])) { s with heap := h'', toks := tk } :=
      I.turnedNew (t' := tk) (ch := [n + 5, n + 3, n + 4, n, n + 1, n + 2]) (fun c o hb q => (sb.2 c (fun q' => hb (by simp [q']))).trans (hk c o (fun q' => hb (by simp [q'])) (fun q' => hb (by simp [q'])) (fun q' => hb (by simp [q'])) (fun q' => hb (by simp [q'])) (fun q' => hb (by simp [q'])) q)) hf (Nat.le_refl _) new
    have S := sep3 ha hb hc
    refine ⟨.ref s.heap.objs.size, _, I1, rfl, ⟨_, x, y, w', rfl, I.hok.fresh (Nat.le_refl _), rfl, fun l hl => by rw [seqB_inj I hl hqx]; exact hx, fun l hl => by rw [seqB_inj I hl hqy]; exact hy, fun l hl => by rw [seqB_inj I hl hqw]; exact hw'⟩, ⟨z'', ?_, ⟨u', u2', u3', ?_⟩, ?_, ?_, ?_⟩, fun d hcm => ?_⟩
    · exact (sb.2 _ S.TIz).trans (hk _ _ S.TIz S.TITO S.TIi1 S.TIi2 S.TIi3 hTI)
    · exact (sb.2 _ S.TOz).trans TO'
    · exact h1'.1.at fun o q => (sb.2 _ S.zi1.symm).trans q
    · exact h2'.1.at fun o q => (sb.2 _ S.zi2.symm).trans q
    · exact h3'.1.at fun o q => (sb.2 _ S.zi3.symm).trans q
    · have hlt : d < s.heap.objs.size := by
        have e' : d = n + 5 ∨ d = n + 3 ∨ d = n + 4 ∨ d = n ∨ d = n + 1 ∨ d = n + 2 := by simpa using hcm
        have lo : ∀ {k : Nat}, k ≤ 5 → n + k < s.heap.objs.size := fun {k} h => Nat.lt_of_le_of_lt (Nat.add_le_add_left h n) hzl
        rcases e' with q | q | q | q | q | q
        · rw [q]; exact hzl
        · rw [q]; exact lo (by decide)
        · rw [q]; exact lo (by decide)
        · rw [q]; exact Nat.lt_of_le_of_lt (Nat.le_add_right n 5) hzl
        · rw [q]; exact lo (by decide)
        · rw [q]; exact lo (by decide)
      rw [upd_ne (Nat.ne_of_lt hlt)]
      exact (hf d hcm).1
  done := by
    intro X hP hw hK hcm i pins s σ H E I hf st hg
    subst hP hw hK
    obtain ⟨hz, hTI, ⟨x0, y0, z0, hTO⟩, h1, h2, h3⟩ := st
    obtain ⟨xs, ys, ws, hqx, hqy, hqw, le1, le2, le3, hend⟩ := hg
    obtain ⟨its, rv, p1⟩ := seqB I hqx
    obtain ⟨its2, rv2, p2⟩ := seqB I hqy
    obtain ⟨its3, rv3, p3⟩ := seqB I hqw
    have l1 := rv.length
    have l2 := rv2.length
    have l3 := rv3.length
    have hh : X.A.in1.handled = none := I.ok.hd hcm
    have s1 : its.toArray.size = its.length := by simp
    have s2 : its2.toArray.size = its2.length := by simp
    have s3 : its3.toArray.size = its3.length := by simp
    have na : a ≠ n := Nat.ne_of_lt ha
    have nb : b ≠ n + 1 := Nat.ne_of_lt (Nat.lt_succ_of_lt hb)
    have nc : c ≠ n + 2 := Nat.ne_of_lt (Nat.lt_of_lt_of_le hc (Nat.le_add_right _ _))
    refine wpAny_pyNext_zipD3_end (sep3 ha hb hc) (drawsB p hh n a na its.toArray) (drawsB q hh (n + 1) b nb its2.toArray) (drawsB r hh (n + 2) c nc its3.toArray) hz hTI hTO ⟨h1, p1⟩ ⟨h2, p2⟩ ⟨h3, p3⟩ (by rw [s1]; omega) (by rw [s2]; omega) (by rw [s3]; omega) (by rw [s1, s2, s3]; omega) fun h' tk hk => ⟨rfl, I.turnedL (t' := tk) (ch := [n + 5, n + 3, n + 4, n, n + 1, n + 2]) (fun c o hb q =>
      hk c o (fun q' => hb (by simp [q'])) (fun q' => hb (by simp [q'])) (fun q' => hb (by simp [q'])) (fun q' => hb (by simp [q'])) (fun q' => hb (by simp [q'])) q) hf⟩
  self := fun A i s Q E st h => wpAny_pyIter_zip st.1 h
def iZip3 (K : PySem.W.Frag) (ta : TA) : TI := fun σ H R => ta σ H fun vs H1 => ∃ p q r a b c xs ys ws, vs = [.ref a, .ref b, .ref c] ∧ SqB p K H1 a xs ∧ SqB q K H1 b ys ∧ SqB r K H1 c ws ∧ R (Itz3 p q r K a b c) H1
theorem pi_zip3 {X : Cx} {e e2 e3 : Expr} {ta : TA} {p pos tpos : Pos} {elts : List Expr} {kk : Nat} (hg : Gl X "zip") (hm : X.mg "zip" = none) (ha : PA X [e, e2, e3] ta)
    (hs : starEach [e, e2, e3] X.env = (false, eval e X.env) :: starEach [e2, e3] X.env := by rfl) (hpl : (backTo pos (starEach [e2, e3] X.env)).any (·.1) = false := by rfl) :
    PI X (.Tuple elts kk tpos) (.Call (.Name "zip" p) [e, e2, e3] [] pos) (iZip3 X.K ta) := by
  refine ⟨fun pins s σ H R I h => ?_⟩
  refine Call_ (ld_blt I hg hm PyProof.Rows.boot_zip (PyProof.Rows.callWith_type1 (thn (ha.run pos pins s σ H _ I h) fun us s1 ⟨vs, H1, I1, r1, q1⟩ => ?_) hs hpl))
  obtain ⟨p, q, r, a, b, c, xs, ys, ws, ex, hqx, hqy, hqw, g⟩ := q1
  subst ex
  cases r1 with
  | cons r1 rr =>
    cases rr with
    | cons r2 rr =>
      cases rr with
      | cons r3 rr =>
        cases rr
        cases r1
        cases r2
        cases r3
        have fresh : ∀ d, d ∈ [s1.heap.objs.size + 5, s1.heap.objs.size + 3, s1.heap.objs.size + 4, s1.heap.objs.size, s1.heap.objs.size + 1, s1.heap.objs.size + 2] → FpOk X pins H1 d := fun d hcm => by
          have e' : d = s1.heap.objs.size + 5 ∨ d = s1.heap.objs.size + 3 ∨ d = s1.heap.objs.size + 4 ∨ d = s1.heap.objs.size ∨ d = s1.heap.objs.size + 1 ∨ d = s1.heap.objs.size + 2 := by simpa using hcm
          have hle : s1.heap.objs.size ≤ d := by
            rcases e' with z | z | z | z | z | z
            · rw [z]; exact Nat.le_add_right _ _
            · rw [z]; exact Nat.le_add_right _ _
            · rw [z]; exact Nat.le_add_right _ _
            · rw [z]; exact Nat.le_refl _
            · rw [z]; exact Nat.le_add_right _ _
            · rw [z]; exact Nat.le_add_right _ _
          exact I1.fpOk hle (I1.hok.fresh hle)
        obtain ⟨its, rv, p1⟩ := seqB I1 hqx
        obtain ⟨its2, rv2, p2⟩ := seqB I1 hqy
        obtain ⟨its3, rv3, p3⟩ := seqB I1 hqw
        refine zip_begins3 (beginsB p a its.toArray) (beginsB q b its2.toArray) (beginsB r c its3.toArray) p1 p2 p3 fun h' hz hTI hTO h1 h2 h3 hsz hk => wpAny_pyIter_zip hz ?_
        have I2 : Inv X pins σ H1 { s1 with heap := h' } := I1.kept (t' := s1.toks) hk
        exact ⟨s1.heap.objs.size + 5, [s1.heap.objs.size + 5, s1.heap.objs.size + 3, s1.heap.objs.size + 4, s1.heap.objs.size, s1.heap.objs.size + 1, s1.heap.objs.size + 2], _, _, H1, rfl, I2, turn_zip3 p q r p1.lt p2.lt p3.lt, ⟨hz, hTI, ⟨_, _, _, hTO⟩, itB_of h1, itB_of h2, itB_of h3⟩, fresh, g⟩
/-- a loop over zip of three rows alike in length -/
theorem for_zip3 {p q r : Bool} {K : PySem.W.Frag} {a b c : Addr} {xs ys ws : List V} {g : TG} {tb : TS} {D : Ends} {σ : L2.St} {H : Hp} (hl : xs.length = ys.length) (hl2 : xs.length = ws.length) (Pv : Nat → L2.St → Hp → Prop) (h0 : Pv 0 σ H) (hq : ∀ i σ H, Pv i σ H → SqB p K H a xs ∧ SqB q K H b ys ∧ SqB r K H c ws)
    (hs : ∀ (i : Nat) (x y w : V) (T : Addr) (σ : L2.St) (H : Hp), xs[i]? = some x → ys[i]? = some y → ws[i]? = some w → Pv i σ H → H T = none → g (.ref T) σ (upd H T (.tup [x, y, w])) fun σ2 H2 => tb { D with nx := Pv (i + 1), ct := Pv (i + 1), bk := D.nx } σ2 H2) (hd : ∀ σ H, Pv xs.length σ H → D.nx σ H) :
    ∃ W : Nat → Nat → L2.St → Hp → Prop, (∃ m, W 0 m σ H) ∧ ∀ i m σ H, W i m σ H →
      ((Itz3 p q r K a b c).stop i H ∧ D.nx σ H) ∨ ((Itz3 p q r K a b c).go i H ∧ ∃ N : L2.St → Hp → Prop, (∀ σ' H', N σ' H' → ∃ m', m' < m ∧ W (i + 1) m' σ' H') ∧ ∀ v H', (Itz3 p q r K a b c).yld i H v H' → g v σ H' fun σ2 H2 => tb { D with nx := N, ct := N, bk := D.nx } σ2 H2) := by
  refine ⟨fun i m σ H => m = xs.length - i ∧ i ≤ xs.length ∧ Pv i σ H, ⟨xs.length, rfl, Nat.zero_le _, h0⟩, ?_⟩
  rintro i m σ H ⟨rfl, hi, pv⟩
  obtain ⟨qx, qy, qw⟩ := hq i σ H pv
  by_cases hlt : i < xs.length
  · have hx : xs[i]? = some xs[i] := List.getElem?_eq_getElem hlt
    have hy : ys[i]? = some (ys[i]'(by omega)) := List.getElem?_eq_getElem (by omega)
    have hw : ws[i]? = some (ws[i]'(by omega)) := List.getElem?_eq_getElem (by omega)
    refine .inr ⟨⟨xs, ys, ws, _, _, _, qx, qy, qw, hx, hy, hw⟩, Pv (i + 1), fun σ' H' p' => ⟨xs.length - (i + 1), by omega, rfl, hlt, p'⟩, fun v H' y => ?_⟩
    obtain ⟨T, x', y', w', rfl, hT, rfl, f1, f2, f3⟩ := y
    exact hs i x' y' w' T σ H (f1 xs qx) (f2 ys qy) (f3 ws qw) pv hT
  · have e : i = xs.length := by omega
    subst e
    exact .inl ⟨⟨xs, ys, ws, qx, qy, qw, Nat.le_refl _, by omega, by omega, .inl rfl⟩, hd σ H pv⟩
end Vf

set_option maxRecDepth 100000
set_option maxHeartbeats 4000000
/-! a text of one sign, some times -/
namespace Vf
open PySem PySem.Spec PyProof.Rows L2
def rRepS : R2 := fun x y H Q => ∃ s n, x = .str s ∧ y = .int n ∧ s.length = 1 ∧ 1 ≤ n ∧ n ≤ 1000 ∧ ∀ z, Q (.str z) H
theorem foldl_size {α : Type} (c : Array α) : ∀ (m : Nat) (acc : Array α), (List.foldl (fun x1 x2 => x1 ++ x2) acc (List.replicate m c)).size = acc.size + m * c.size
  | 0, acc => by simp
  | m + 1, acc => by
    rw [List.replicate_succ, List.foldl_cons, foldl_size c m, Array.size_append, Nat.succ_mul]
    omega
theorem op_repS {X : Cx} : OpR X (binaryOp .Mult) rRepS := by
  intro pins s σ H x y v u Q I rx ry h
  obtain ⟨z, n, rfl, rfl, hl, n1, n2, q⟩ := h
  obtain ⟨t, rfl⟩ := rx
  obtain ⟨t2, rfl⟩ := ry
  refine PySem.P.mul_str ?_ (fun _ _ => ?_) (fun _ _ => ?_) ?_
  · rw [decide_eq_false (by omega), decide_eq_false (by omega)]
    rfl
  · rw [hl]
    have : 1 ≤ (2 ^ 63 - 1) / n := Int.le_ediv_of_mul_le (by omega) (by omega)
    omega
  · rw [hl]
    show decide (1 * n.toNat > sizeLine) = false
    rw [sizeLine_eq]
    exact decide_eq_false (by omega)
  · rw [if_neg (by omega)]
    by_cases h1 : (n == 1 || z.length == 0) = true
    · rw [if_pos h1]
      exact ⟨.str z, H, I, ⟨_, rfl⟩, q z⟩
    · rw [if_neg h1]
      refine ⟨?_, .str _, H, I.tok _, ⟨_, rfl⟩, q _⟩
      show (List.foldl (fun x1 x2 => x1 ++ x2) #[] (List.replicate n.toNat z.cps)).size ≤ sizeLine
      rw [foldl_size]
      have hl : z.cps.size = 1 := hl
      rw [hl, sizeLine_eq, Array.size_empty]
      omega
end Vf

set_option maxRecDepth 100000
set_option maxHeartbeats 4000000
/-! texts as rows of code points -/
namespace Vf
open PySem PySem.Spec PyProof.Rows L2
/-- the text of these code points -/
def Tx (l : List Nat) : Str := ⟨l.toArray⟩
theorem tx_cps (l : List Nat) : (Tx l).cps.toList = l := rfl
theorem tx_len (l : List Nat) : (Tx l).length = l.length := by
  show l.toArray.size = l.length
  simp
theorem tx_of (z : Str) : ∃ l, z = Tx l := ⟨z.cps.toList, by cases z; rfl⟩
theorem tx_inj {a b : List Nat} (h : Tx a = Tx b) : a = b := by
  have := congrArg (fun z : Str => z.cps.toList) h
  simpa [tx_cps] using this
theorem tx_at (l : List Nat) (i : Nat) : (Tx l).cps[i]? = l[i]? := by
  show l.toArray[i]? = l[i]?
  simp
theorem sIx_nat (n d a : Nat) : HT.sIx n d (some (a : Int)) = min a n := by
  show (if (a : Int) < 0 then ((a : Int) + (n : Int)).toNat else min (a : Int).toNat n) = _
  rw [if_neg (by omega)]
  rfl
theorem tx_cut (l : List Nat) {a b : Int} {m n : Nat} (ha : a = (m : Int)) (hb : b = (n : Int)) : cutS (Tx l) (some a) (some b) = Tx ((l.drop m).take (n - m)) := by
  subst ha hb
  show Str.mk ((((Tx l).cps.toList.drop (HT.sIx (Tx l).length 0 (some (m : Int)))).take (HT.sIx (Tx l).length (Tx l).length (some (n : Int)) - HT.sIx (Tx l).length 0 (some (m : Int)))).toArray) = Str.mk _
  rw [sIx_nat, sIx_nat, tx_cps, tx_len]
  congr 2
  by_cases hm : m ≤ l.length
  · rw [Nat.min_eq_left hm]
    by_cases hn : n ≤ l.length
    · rw [Nat.min_eq_left hn]
    · rw [Nat.min_eq_right (by omega), List.take_of_length_le (by rw [List.length_drop]; omega), List.take_of_length_le (by rw [List.length_drop]; omega)]
  · rw [Nat.min_eq_right (by omega : l.length ≤ m), List.drop_eq_nil_of_le (Nat.le_refl _), List.drop_eq_nil_of_le (by omega)]
    simp
theorem take_one (l : List Nat) : l.take 1 = l[0]?.toList := by cases l <;> rfl
theorem tx_sign (l : List Nat) {a b : Int} {m : Nat} (ha : a = (m : Int)) (hb : b = a + 1) : cutS (Tx l) (some a) (some b) = Tx (l[m]?.toList) := by
  rw [tx_cut l (n := m + 1) ha (by omega), show m + 1 - m = 1 by omega, take_one, List.getElem?_drop]
  rfl
/-- one sign compared with a written one -/
theorem sign_eq (o : Option Nat) (c : Nat) : decide (V.str (Tx o.toList) = V.str (Tx [c])) = decide (o = some c) := by
  cases o with
  | none =>
    rw [decide_eq_false (fun z => by have := tx_inj (V.str.inj z); cases this), decide_eq_false (fun z => nomatch z)]
  | some d =>
    by_cases h : d = c
    · subst h
      simp
    · rw [decide_eq_false (fun z => h (by have := tx_inj (V.str.inj z); simpa using this)), decide_eq_false (fun z => h (Option.some.inj z))]
theorem tx_eq (a b : List Nat) : decide (V.str (Tx a) = V.str (Tx b)) = decide (a = b) := by
  by_cases h : a = b
  · subst h; simp
  · rw [decide_eq_false (fun z => h (tx_inj (V.str.inj z))), decide_eq_false h]
def isD (c : Nat) : Bool := decide (48 ≤ c ∧ c ≤ 57)
theorem in_digits (c : Nat) : decide (c ∈ [48, 49, 50, 51, 52, 53, 54, 55, 56, 57]) = isD c := by
  unfold isD
  refine decide_eq_decide.mpr ?_
  simp only [List.mem_cons, List.not_mem_nil, or_false]
  omega
theorem lit_digits : ("0123456789" : Str) = Tx [48, 49, 50, 51, 52, 53, 54, 55, 56, 57] := by decide +kernel
theorem lit_sp : (" " : Str) = Tx [32] := by decide +kernel
theorem lit_x : ("x" : Str) = Tx [120] := by decide +kernel
theorem lit_hat : ("^" : Str) = Tx [94] := by decide +kernel
theorem lit_star : ("*" : Str) = Tx [42] := by decide +kernel
theorem lit_slash : ("/" : Str) = Tx [47] := by decide +kernel
theorem lit_plus : ("+" : Str) = Tx [43] := by decide +kernel
theorem lit_minus : ("-" : Str) = Tx [45] := by decide +kernel
theorem lit_zero : ("0" : Str) = Tx [48] := by decide +kernel
theorem lit_one : ("1" : Str) = Tx [49] := by decide +kernel
theorem lit_10 : ("10" : Str) = Tx [49, 48] := by decide +kernel
theorem lit_11 : ("11" : Str) = Tx [49, 49] := by decide +kernel
theorem lit_12 : ("12" : Str) = Tx [49, 50] := by decide +kernel
theorem lit_empty : ("" : Str) = Tx [] := by decide +kernel
/-- the worth of figures -/
theorem int_tx {l : List Nat} (h : ∀ c ∈ l, isD c = true) (h1 : l ≠ []) (h2 : l.length ≤ 640) : PySem.intText? (Tx l) = some ((PySem.NumText.digitsVal l : Nat) : Int) :=
  PySem.intText_digits (x := Tx l) (fun c hc => of_decide_eq_true (h c hc)) h1 (by rw [tx_len]; omega)
theorem dv_go : ∀ (l : List Nat) (a : Nat), (∀ c ∈ l, isD c = true) → l.foldl (fun acc c => acc * 10 + (c - 48)) a < (a + 1) * 10 ^ l.length
  | [], a, _ => by simp
  | c :: l, a, h => by
    have hc : 48 ≤ c ∧ c ≤ 57 := of_decide_eq_true (h c (List.mem_cons_self ..))
    have := dv_go l (a * 10 + (c - 48)) (fun d hd => h d (List.mem_cons_of_mem _ hd))
    rw [List.foldl_cons, List.length_cons, Nat.pow_succ]
    refine Nat.lt_of_lt_of_le this ?_
    rw [Nat.mul_comm (10 ^ l.length) 10, ← Nat.mul_assoc]
    exact Nat.mul_le_mul_right _ (by omega)
theorem dv_lt {l : List Nat} (h : ∀ c ∈ l, isD c = true) : PySem.NumText.digitsVal l < 10 ^ l.length := by
  have := dv_go l 0 h
  simpa [PySem.NumText.digitsVal] using this
theorem dv_ge : ∀ (l : List Nat) (a : Nat), a ≤ l.foldl (fun acc c => acc * 10 + (c - 48)) a
  | [], a => Nat.le_refl _
  | c :: l, a => by
    rw [List.foldl_cons]
    exact Nat.le_trans (by omega) (dv_ge l _)
/-- figures behind one that is not 0 are not 0 -/
theorem dv_pos {c : Nat} {l : List Nat} (h : isD c = true) (h0 : c ≠ 48) : 0 < PySem.NumText.digitsVal (c :: l) := by
  have hc : 48 ≤ c ∧ c ≤ 57 := of_decide_eq_true h
  unfold PySem.NumText.digitsVal
  rw [List.foldl_cons]
  exact Nat.lt_of_lt_of_le (by omega) (dv_ge l _)
end Vf

set_option maxRecDepth 100000
set_option maxHeartbeats 4000000
/-! a reader of polynomials, sign by sign -/
namespace Vf
inductive Md where
  | bg | mi | st | gp | en | sl | xx | ht
  | tp (s : List Nat) | un (s : List Nat) | pw (s : List Nat)
  deriving DecidableEq
def isPm (c : Nat) : Bool := decide (c = 43 ∨ c = 45)
def nxN (f : List Nat → Md) (s : List Nat) (c : Nat) : Option Md := if s ≠ [48] ∧ s.length < 40 then some (f (s ++ [c])) else none
def nx (m : Md) (c : Nat) : Option Md :=
  if c = 32 then
    match m with
    | .bg => some .bg | .mi => some .mi | .st => some .st | .gp => some .gp | .en => some .en
    | .tp _ => some .gp | .un _ => some .gp
    | .xx => some .en | .pw _ => some .en
    | .sl => none | .ht => none
  else match m with
    | .bg => if c = 45 then some .mi else if c = 120 then some .xx else if isD c then some (.tp [c]) else none
    | .mi => if c = 120 then some .xx else if isD c then some (.tp [c]) else none
    | .st => if c = 120 then some .xx else none
    | .tp s => if isD c then nxN .tp s c else if c = 47 then some .sl else if c = 42 then some .st else if isPm c then some .mi else none
    | .un s => if isD c then nxN .un s c else if c = 42 then some .st else if isPm c then some .mi else none
    | .sl => if isD c = true ∧ c ≠ 48 then some (.un [c]) else none
    | .xx => if c = 94 then some .ht else if isPm c then some .mi else none
    | .ht => if isD c then some (.pw [c]) else none
    | .pw s => if s = [49] ∧ 48 ≤ c ∧ c ≤ 50 then some (.pw (s ++ [c])) else if isPm c then some .mi else none
    | .gp => if c = 42 then some .st else if isPm c then some .mi else none
    | .en => if isPm c then some .mi else none
def acc : Md → Bool
  | .tp _ | .un _ | .gp | .xx | .pw _ | .en => true
  | _ => false
def col (m : Md) : List Nat → Nat → Nat
  | [], at_ => if acc m then 0 else at_ + 1
  | c :: cs, at_ => match nx m c with
    | none => at_ + 1
    | some m' => col m' cs (at_ + 1)
def Cl (t : List Nat) (m : Md) (at_ : Nat) : Nat := col m (t.drop at_) at_
section
variable {t : List Nat} {m m' : Md} {e c : Nat}
theorem drop_some (h : t[e]? = some c) : t.drop e = c :: t.drop (e + 1) := by
  obtain ⟨h1, rfl⟩ := List.getElem?_eq_some_iff.mp h
  exact List.drop_eq_getElem_cons h1
theorem drop_none (h : t[e]? = none) : t.drop e = [] := List.drop_eq_nil_of_le (List.getElem?_eq_none_iff.mp h)
theorem cl_step (h : t[e]? = some c) (n : nx m c = some m') : Cl t m e = Cl t m' (e + 1) := by
  unfold Cl
  rw [drop_some h]
  show (match nx m c with | none => e + 1 | some m' => col m' (t.drop (e + 1)) (e + 1)) = _
  rw [n]
theorem cl_fail (h : t[e]? = some c) (n : nx m c = none) : Cl t m e = e + 1 := by
  unfold Cl
  rw [drop_some h]
  show (match nx m c with | none => e + 1 | some m' => col m' (t.drop (e + 1)) (e + 1)) = _
  rw [n]
theorem cl_end (h : t[e]? = none) : Cl t m e = if acc m then 0 else e + 1 := by
  unfold Cl
  rw [drop_none h]
  rfl
def spc : List Nat → Nat
  | [] => 0
  | c :: cs => if c = 32 then spc cs + 1 else 0
/-- behind the spaces -/
def beh (t : List Nat) (e : Nat) : Nat := e + spc (t.drop e)
theorem beh_sp (h : t[e]? = some 32) : beh t e = beh t (e + 1) := by
  unfold beh
  rw [drop_some h]
  show e + (if (32 : Nat) = 32 then spc (t.drop (e + 1)) + 1 else 0) = _
  rw [if_pos rfl]
  omega
theorem beh_no (h : t[e]? ≠ some 32) : beh t e = e := by
  unfold beh
  cases h2 : t[e]? with
  | none => rw [drop_none h2]; rfl
  | some c =>
    rw [drop_some h2]
    show e + (if c = 32 then _ else 0) = _
    rw [if_neg (fun z => h (by rw [h2, z]))]
    rfl
theorem beh_ne (t : List Nat) (e : Nat) : t[beh t e]? ≠ some 32 := by
  have go : ∀ (n e : Nat), t.length - e ≤ n → t[beh t e]? ≠ some 32 := by
    intro n
    induction n with
    | zero =>
      intro e he z
      have h : t[e]? = none := List.getElem?_eq_none (by omega)
      rw [beh_no (by rw [h]; intro z; cases z), h] at z
      cases z
    | succ n ih =>
      intro e he
      by_cases h : t[e]? = some 32
      · rw [beh_sp h]
        have := (List.getElem?_eq_some_iff.mp h).1
        exact ih (e + 1) (by omega)
      · rw [beh_no h]
        exact h
  exact go _ e (Nat.le_refl _)
theorem beh_le (t : List Nat) (e : Nat) : e ≤ beh t e := Nat.le_add_right _ _
theorem beh_len (h : e ≤ t.length) : beh t e ≤ t.length := by
  have go : ∀ l : List Nat, spc l ≤ l.length := by
    intro l
    induction l with
    | nil => exact Nat.le_refl _
    | cons c cs ih =>
      show (if c = 32 then spc cs + 1 else 0) ≤ cs.length + 1
      split <;> omega
  unfold beh
  have := go (t.drop e)
  rw [List.length_drop] at this
  omega
/-- spaces leave a mode as it is -/
theorem cl_beh (hm : nx m 32 = some m) (e : Nat) : Cl t m e = Cl t m (beh t e) := by
  have go : ∀ (n e : Nat), t.length - e ≤ n → Cl t m e = Cl t m (beh t e) := by
    intro n
    induction n with
    | zero =>
      intro e he
      have h : t[e]? = none := List.getElem?_eq_none (by omega)
      rw [beh_no (by rw [h]; intro z; cases z)]
    | succ n ih =>
      intro e he
      by_cases h : t[e]? = some 32
      · rw [beh_sp h, cl_step h hm]
        have := (List.getElem?_eq_some_iff.mp h).1
        exact ih (e + 1) (by omega)
      · rw [beh_no h]
  exact go _ e (Nat.le_refl _)
/-- what is due where a term has ended and no space stands -/
def fin (t : List Nat) (e : Nat) : Nat := match t[e]? with
  | none => 0
  | some c => if isPm c then Cl t .mi (e + 1) else e + 1
def aft (t : List Nat) (e : Nat) : Nat := fin t (beh t e)
/-- what is due behind a number -/
def num (t : List Nat) (e : Nat) : Nat := if t[beh t e]? = some 42 then Cl t .st (beh t e + 1) else aft t e
theorem cl_en (h : t[e]? ≠ some 32) : Cl t .en e = fin t e := by
  unfold fin
  cases h2 : t[e]? with
  | none => rw [cl_end h2]; rfl
  | some c =>
    have hc : c ≠ 32 := fun z => h (by rw [h2, z])
    have n : nx .en c = if isPm c then some .mi else none := by unfold nx; rw [if_neg hc]
    show _ = if isPm c then _ else _
    cases hp : isPm c with
    | true => rw [cl_step h2 (by rw [n, hp]; rfl)]; rfl
    | false => rw [cl_fail h2 (by rw [n, hp]; rfl)]; rfl
theorem cl_gp (h : t[e]? ≠ some 32) : Cl t .gp e = if t[e]? = some 42 then Cl t .st (e + 1) else fin t e := by
  unfold fin
  cases h2 : t[e]? with
  | none => rw [cl_end h2]; rfl
  | some c =>
    have hc : c ≠ 32 := fun z => h (by rw [h2, z])
    have n : nx .gp c = if c = 42 then some .st else if isPm c then some .mi else none := by unfold nx; rw [if_neg hc]
    by_cases h3 : c = 42
    · subst h3
      rw [if_pos rfl, cl_step h2 (by rw [n]; rfl)]
    · rw [if_neg (fun z => h3 (Option.some.inj z))]
      rw [if_neg h3] at n
      show _ = if isPm c then _ else _
      cases hp : isPm c with
      | true => rw [cl_step h2 (by rw [n, hp]; rfl)]; rfl
      | false => rw [cl_fail h2 (by rw [n, hp]; rfl)]; rfl
/-- behind x or a power -/
theorem aft_of (hm : nx m 32 = some .en) (ha : acc m = true) (hn : ∀ c, t[e]? = some c → c ≠ 32 → nx m c = if isPm c then some .mi else none) : Cl t m e = aft t e := by
  unfold aft
  by_cases h : t[e]? = some 32
  · rw [cl_step h hm, cl_beh (m := .en) rfl, ← beh_sp h]
    exact cl_en (beh_ne t e)
  · rw [beh_no h]
    unfold fin
    cases h2 : t[e]? with
    | none => rw [cl_end h2, ha]; rfl
    | some c =>
      have hc : c ≠ 32 := fun z => h (by rw [h2, z])
      have n := hn c h2 hc
      show _ = if isPm c then _ else _
      cases hp : isPm c with
      | true => rw [cl_step h2 (by rw [n, hp]; rfl)]; rfl
      | false => rw [cl_fail h2 (by rw [n, hp]; rfl)]; rfl
/-- behind a number's figures -/
theorem num_of (hm : nx m 32 = some .gp) (ha : acc m = true) (hn : ∀ c, t[e]? = some c → c ≠ 32 → nx m c = if c = 42 then some .st else if isPm c then some .mi else none) : Cl t m e = num t e := by
  unfold num aft
  by_cases h : t[e]? = some 32
  · rw [cl_step h hm, cl_beh (m := .gp) rfl, ← beh_sp h]
    exact cl_gp (beh_ne t e)
  · rw [beh_no h]
    unfold fin
    cases h2 : t[e]? with
    | none => rw [cl_end h2, ha]; rfl
    | some c =>
      have hc : c ≠ 32 := fun z => h (by rw [h2, z])
      have n := hn c h2 hc
      by_cases h3 : c = 42
      · subst h3
        rw [if_pos rfl, cl_step h2 (by rw [n]; rfl)]
      · rw [if_neg (fun z => h3 (Option.some.inj z))]
        rw [if_neg h3] at n
        show _ = if isPm c then _ else _
        cases hp : isPm c with
        | true => rw [cl_step h2 (by rw [n, hp]; rfl)]; rfl
        | false => rw [cl_fail h2 (by rw [n, hp]; rfl)]; rfl
/-! ### figures -/
def seg (t : List Nat) (a j : Nat) : List Nat := (t.drop a).take j
/-- j figures from a on, as many as are read -/
structure Wh (t : List Nat) (a j : Nat) : Prop where
  j1 : 1 ≤ j
  j40 : j ≤ 40
  dg : ∀ i, i < j → ∃ c, t[a + i]? = some c ∧ isD c = true
  z : t[a]? = some 48 → j = 1
  stop : t[a]? = some 48 ∨ j = 40 ∨ ∀ c, t[a + j]? = some c → isD c = false
theorem seg_at (a j i : Nat) (h : i < j) : (seg t a j)[i]? = t[a + i]? := by
  unfold seg
  rw [List.getElem?_take, if_pos h, List.getElem?_drop]
theorem seg_len {a j : Nat} (h : ∀ i, i < j → ∃ c, t[a + i]? = some c ∧ isD c = true) : (seg t a j).length = j := by
  unfold seg
  rw [List.length_take, List.length_drop]
  cases j with
  | zero => omega
  | succ j =>
    obtain ⟨c, h1, _⟩ := h j (by omega)
    have := (List.getElem?_eq_some_iff.mp h1).1
    omega
theorem seg_dig {a j : Nat} (h : ∀ i, i < j → ∃ c, t[a + i]? = some c ∧ isD c = true) : ∀ c ∈ seg t a j, isD c = true := by
  intro c hc
  obtain ⟨i, hi⟩ := List.getElem?_of_mem hc
  have hl : i < j := by
    have := (List.getElem?_eq_some_iff.mp hi).1
    rw [seg_len h] at this
    exact this
  obtain ⟨d, h1, h2⟩ := h i hl
  rw [seg_at a j i hl, h1] at hi
  cases hi
  exact h2
theorem seg_succ {a j c : Nat} (h : t[a + j]? = some c) : seg t a (j + 1) = seg t a j ++ [c] := by
  unfold seg
  rw [List.take_succ, List.getElem?_drop, h]
  rfl
theorem seg_one {a c : Nat} (h : t[a]? = some c) : seg t a 1 = [c] := by
  have := seg_succ (t := t) (a := a) (j := 0) h
  simpa [seg] using this
theorem seg_head {a j c : Nat} (h : t[a]? = some c) (hj : 1 ≤ j) : ∃ l, seg t a j = c :: l := by
  unfold seg
  rw [drop_some h]
  cases j with
  | zero => omega
  | succ j => exact ⟨_, rfl⟩
/-- a mode reads figure by figure -/
theorem run_of {f : List Nat → Md} (hf : ∀ s c, isD c = true → nx (f s) c = nxN f s c) {a j : Nat} (W : Wh t a j) : ∀ k, 1 ≤ k → k ≤ j → Cl t (f (seg t a 1)) (a + 1) = Cl t (f (seg t a k)) (a + k) := by
  intro k
  induction k with
  | zero => intro h; omega
  | succ k ih =>
    intro h1 h2
    by_cases hk : k = 0
    · subst hk
      rfl
    · rw [ih (by omega) (by omega)]
      obtain ⟨c, h3, h4⟩ := W.dg k (by omega)
      obtain ⟨c0, g3, g4⟩ := W.dg 0 (by have := W.j1; omega)
      have l := seg_len (t := t) (a := a) (j := k) fun i hi => W.dg i (by omega)
      have nz : seg t a k ≠ [48] := fun z => by
        obtain ⟨r, e⟩ := seg_head (t := t) (a := a) (j := k) (c := c0) g3 (by omega)
        rw [e] at z
        have : c0 = 48 := (List.cons.inj z).1
        subst this
        have := W.z g3
        omega
      rw [cl_step h3 (m' := f (seg t a k ++ [c])) (by rw [hf _ _ h4]; unfold nxN; rw [if_pos ⟨nz, by have := W.j40; omega⟩]), seg_succ h3]
      rfl
theorem run_stop {f : List Nat → Md} (hf : ∀ s c, isD c = true → nx (f s) c = nxN f s c) {a j c : Nat} (W : Wh t a j) (h : t[a + j]? = some c) (hd : isD c = true) : nx (f (seg t a j)) c = none := by
  rw [hf _ _ hd]
  unfold nxN
  refine if_neg fun z => ?_
  rcases W.stop with h1 | h1 | h1
  · have := W.z h1
    subst this
    exact z.1 (seg_one h1)
  · have := seg_len W.dg
    omega
  · rw [h1 c h] at hd
    cases hd
theorem tp_dig (s : List Nat) (c : Nat) (h : isD c = true) : nx (.tp s) c = nxN .tp s c := by
  have hc : 48 ≤ c ∧ c ≤ 57 := of_decide_eq_true h
  unfold nx
  rw [if_neg (by omega)]
  show (if isD c then nxN .tp s c else _) = _
  rw [if_pos h]
theorem un_dig (s : List Nat) (c : Nat) (h : isD c = true) : nx (.un s) c = nxN .un s c := by
  have hc : 48 ≤ c ∧ c ≤ 57 := of_decide_eq_true h
  unfold nx
  rw [if_neg (by omega)]
  show (if isD c then nxN .un s c else _) = _
  rw [if_pos h]
/-- a whole number and no / behind it -/
theorem num_tp {a j : Nat} (W : Wh t a j) (h : t[a + j]? ≠ some 47) : Cl t .mi a = num t (a + j) := by
  obtain ⟨c, h1, h2⟩ := W.dg 0 (by have := W.j1; omega)
  have hc : 48 ≤ c ∧ c ≤ 57 := of_decide_eq_true h2
  have n : nx .mi c = some (.tp [c]) := by
    unfold nx
    rw [if_neg (by omega)]
    show (if c = 120 then _ else if isD c then _ else _) = _
    rw [if_neg (by omega), if_pos h2]
  rw [cl_step (e := a) h1 n, ← seg_one (t := t) (a := a) h1, run_of tp_dig W j W.j1 (Nat.le_refl _)]
  refine num_of rfl rfl fun d hd ds => ?_
  cases hdd : isD d with
  | true =>
    have hd9 : 48 ≤ d ∧ d ≤ 57 := of_decide_eq_true hdd
    rw [run_stop tp_dig W hd hdd, if_neg (by omega), show isPm d = false from decide_eq_false (by omega)]
    rfl
  | false =>
    unfold nx
    rw [if_neg ds]
    show (if isD d then _ else if d = 47 then _ else _) = _
    rw [hdd, if_neg (by decide), if_neg (fun z => h (by rw [hd, z]))]
/-- a whole number and / behind it -/
theorem sl_tp {a j : Nat} (W : Wh t a j) (h : t[a + j]? = some 47) : Cl t .mi a = Cl t .sl (a + j + 1) := by
  obtain ⟨c, h1, h2⟩ := W.dg 0 (by have := W.j1; omega)
  have hc : 48 ≤ c ∧ c ≤ 57 := of_decide_eq_true h2
  have n : nx .mi c = some (.tp [c]) := by
    unfold nx
    rw [if_neg (by omega)]
    show (if c = 120 then _ else if isD c then _ else _) = _
    rw [if_neg (by omega), if_pos h2]
  rw [cl_step (e := a) h1 n, ← seg_one (t := t) (a := a) h1, run_of tp_dig W j W.j1 (Nat.le_refl _)]
  exact cl_step h rfl
theorem sl_no (h : ∀ c, t[e]? = some c → isD c = false) : Cl t .sl e = e + 1 := by
  cases h2 : t[e]? with
  | none => rw [cl_end h2]; rfl
  | some c =>
    refine cl_fail h2 ?_
    unfold nx
    split
    · rfl
    · show (if isD c = true ∧ c ≠ 48 then _ else _) = _
      rw [if_neg (fun z => by rw [h c h2] at z; cases z.1)]
theorem sl_zero (h : t[e]? = some 48) : Cl t .sl e = e + 1 := cl_fail h rfl
theorem num_un {a j : Nat} (W : Wh t a j) (h : t[a]? ≠ some 48) : Cl t .sl a = num t (a + j) := by
  obtain ⟨c, h1, h2⟩ := W.dg 0 (by have := W.j1; omega)
  have hc : 48 ≤ c ∧ c ≤ 57 := of_decide_eq_true h2
  have n : nx .sl c = some (.un [c]) := by
    unfold nx
    rw [if_neg (by omega)]
    show (if isD c = true ∧ c ≠ 48 then _ else _) = _
    rw [if_pos ⟨h2, fun z => h (by rw [show t[a]? = some c from h1, z])⟩]
  rw [cl_step (e := a) h1 n, ← seg_one (t := t) (a := a) h1, run_of un_dig W j W.j1 (Nat.le_refl _)]
  refine num_of rfl rfl fun d hd ds => ?_
  cases hdd : isD d with
  | true =>
    have hd9 : 48 ≤ d ∧ d ≤ 57 := of_decide_eq_true hdd
    rw [run_stop un_dig W hd hdd, if_neg (by omega), show isPm d = false from decide_eq_false (by omega)]
    rfl
  | false =>
    unfold nx
    rw [if_neg ds]
    show (if isD d then _ else if d = 42 then _ else _) = _
    rw [hdd, if_neg (by decide)]
theorem mi_no (h : t[e]? ≠ some 32) (hx : t[e]? ≠ some 120) (hd : ∀ c, t[e]? = some c → isD c = false) : Cl t .mi e = e + 1 := by
  cases h2 : t[e]? with
  | none => rw [cl_end h2]; rfl
  | some c =>
    refine cl_fail h2 ?_
    unfold nx
    rw [if_neg (fun z => h (by rw [h2, z]))]
    show (if c = 120 then _ else if isD c then _ else _) = _
    rw [if_neg (fun z => hx (by rw [h2, z])), hd c h2]
    rfl
/-! ### x and powers -/
theorem mi_x (h : t[e]? = some 120) : Cl t .mi e = Cl t .xx (e + 1) := cl_step h rfl
theorem st_x (h : t[e]? = some 120) : Cl t .st e = Cl t .xx (e + 1) := cl_step h rfl
theorem st_no (h : t[e]? ≠ some 32) (hx : t[e]? ≠ some 120) : Cl t .st e = e + 1 := by
  cases h2 : t[e]? with
  | none => rw [cl_end h2]; rfl
  | some c =>
    refine cl_fail h2 ?_
    unfold nx
    rw [if_neg (fun z => h (by rw [h2, z]))]
    show (if c = 120 then _ else _) = _
    rw [if_neg (fun z => hx (by rw [h2, z]))]
theorem xx_no (h : t[e]? ≠ some 94) : Cl t .xx e = aft t e := aft_of rfl rfl fun c hc hs => by
  unfold nx
  rw [if_neg hs]
  show (if c = 94 then _ else _) = _
  rw [if_neg (fun z => h (by rw [hc, z]))]
theorem xx_hat (h : t[e]? = some 94) : Cl t .xx e = Cl t .ht (e + 1) := cl_step h rfl
theorem ht_no (h : ∀ c, t[e]? = some c → isD c = false) : Cl t .ht e = e + 1 := by
  cases h2 : t[e]? with
  | none => rw [cl_end h2]; rfl
  | some c =>
    refine cl_fail h2 ?_
    unfold nx
    split
    · rfl
    · show (if isD c then _ else _) = _
      rw [h c h2]
      rfl
theorem ht_dig (h : t[e]? = some c) (hd : isD c = true) : Cl t .ht e = Cl t (.pw [c]) (e + 1) := by
  have hc : 48 ≤ c ∧ c ≤ 57 := of_decide_eq_true hd
  refine cl_step h ?_
  unfold nx
  rw [if_neg (by omega)]
  show (if isD c then _ else _) = _
  rw [if_pos hd]
theorem pw_two {a b : Nat} : Cl t (.pw [a, b]) e = aft t e := aft_of rfl rfl fun c hc hs => by
  unfold nx
  rw [if_neg hs]
  show (if [a, b] = [49] ∧ _ then _ else _) = _
  rw [if_neg (fun z => by cases z.1)]
theorem pw_one (h : c = 49 → ∀ d, t[e]? = some d → ¬ (48 ≤ d ∧ d ≤ 50)) : Cl t (.pw [c]) e = aft t e := aft_of rfl rfl fun d hd hs => by
  unfold nx
  rw [if_neg hs]
  show (if [c] = [49] ∧ 48 ≤ d ∧ d ≤ 50 then _ else _) = _
  rw [if_neg (fun z => h (List.cons.inj z.1).1 d hd z.2)]
/-- ten, eleven, twelve -/
theorem ht_ten {d : Nat} (h : t[e]? = some 49) (h2 : t[e + 1]? = some d) (hd : 48 ≤ d ∧ d ≤ 50) : Cl t .ht e = aft t (e + 2) := by
  rw [ht_dig h rfl, cl_step h2 (m' := .pw [49, d]) ?_]
  · exact pw_two
  · unfold nx
    rw [if_neg (by omega)]
    show (if [49] = [49] ∧ 48 ≤ d ∧ d ≤ 50 then some (Md.pw ([49] ++ [d])) else _) = _
    rw [if_pos ⟨rfl, hd⟩]
    rfl
/-! ### the begin -/
theorem bg_minus (h : t[e]? = some 45) : Cl t .bg e = Cl t .mi (e + 1) := cl_step h rfl
theorem bg_mi (h : t[e]? ≠ some 32) (h2 : t[e]? ≠ some 45) : Cl t .bg e = Cl t .mi e := by
  cases h3 : t[e]? with
  | none => rw [cl_end h3, cl_end h3]; rfl
  | some c =>
    have hs : c ≠ 32 := fun z => h (by rw [h3, z])
    have hm : c ≠ 45 := fun z => h2 (by rw [h3, z])
    have n : nx .bg c = nx .mi c := by
      show (if c = 32 then some Md.bg else if c = 45 then _ else _) = (if c = 32 then some Md.mi else _)
      rw [if_neg hs, if_neg hm]
      exact (if_neg hs).symm
    cases hn : nx .mi c with
    | none => rw [cl_fail h3 hn, cl_fail h3 (n.trans hn)]
    | some m' => rw [cl_step h3 hn, cl_step h3 (n.trans hn)]
end
end Vf

set_option maxRecDepth 100000
set_option maxHeartbeats 4000000
/-! a text of one sign some times, with its length; texts cut at one end; joined texts -/
namespace Vf
open PySem PySem.Spec PyProof.Rows L2
def rRepN : R2 := fun x y H Q => ∃ s n, x = .str s ∧ y = .int n ∧ s.length = 1 ∧ 1 ≤ n ∧ n ≤ 1000 ∧ ∀ z : Str, z.length = n.toNat → Q (.str z) H
theorem op_repN {X : Cx} : OpR X (binaryOp .Mult) rRepN := by
  intro pins s σ H x y v u Q I rx ry h
  obtain ⟨z, n, rfl, rfl, hl, n1, n2, q⟩ := h
  obtain ⟨t, rfl⟩ := rx
  obtain ⟨t2, rfl⟩ := ry
  refine PySem.P.mul_str ?_ (fun _ _ => ?_) (fun _ _ => ?_) ?_
  · rw [decide_eq_false (by omega), decide_eq_false (by omega)]
    rfl
  · rw [hl]
    have : 1 ≤ (2 ^ 63 - 1) / n := Int.le_ediv_of_mul_le (by omega) (by omega)
    omega
  · rw [hl]
    show decide (1 * n.toNat > sizeLine) = false
    rw [sizeLine_eq]
    exact decide_eq_false (by omega)
  · rw [if_neg (by omega)]
    by_cases h1 : (n == 1 || z.length == 0) = true
    · rw [if_pos h1]
      refine ⟨.str z, H, I, ⟨_, rfl⟩, q z ?_⟩
      rw [Bool.or_eq_true, beq_iff_eq, beq_iff_eq] at h1
      omega
    · rw [if_neg h1]
      have hz : (List.foldl (fun x1 x2 => x1 ++ x2) #[] (List.replicate n.toNat z.cps)).size = n.toNat := by
        rw [foldl_size]
        have hl : z.cps.size = 1 := hl
        rw [hl, Array.size_empty]
        omega
      refine ⟨?_, .str _, H, I.tok _, ⟨_, rfl⟩, q _ hz⟩
      show (List.foldl (fun x1 x2 => x1 ++ x2) #[] (List.replicate n.toNat z.cps)).size ≤ sizeLine
      rw [hz, sizeLine_eq]
      omega
theorem tx_upto (l : List Nat) {a : Int} {m : Nat} (ha : a = (m : Int)) : cutS (Tx l) none (some a) = Tx (l.take m) := by
  subst ha
  show Str.mk ((((Tx l).cps.toList.drop (HT.sIx (Tx l).length 0 none)).take (HT.sIx (Tx l).length (Tx l).length (some (m : Int)) - HT.sIx (Tx l).length 0 none)).toArray) = Str.mk _
  rw [sIx_nat, tx_cps, tx_len]
  show Str.mk (((l.drop 0).take (min m l.length - 0)).toArray) = Str.mk _
  congr 2
  rw [List.drop_zero, Nat.sub_zero]
  by_cases h : m ≤ l.length
  · rw [Nat.min_eq_left h]
  · rw [Nat.min_eq_right (by omega), List.take_of_length_le (Nat.le_refl _), List.take_of_length_le (by omega)]
theorem tx_from (l : List Nat) {a : Int} {m : Nat} (ha : a = (m : Int)) : cutS (Tx l) (some a) none = Tx (l.drop m) := by
  subst ha
  show Str.mk ((((Tx l).cps.toList.drop (HT.sIx (Tx l).length 0 (some (m : Int)))).take (HT.sIx (Tx l).length (Tx l).length none - HT.sIx (Tx l).length 0 (some (m : Int)))).toArray) = Str.mk _
  rw [sIx_nat, tx_cps, tx_len]
  show Str.mk (((l.drop (min m l.length)).take (l.length - min m l.length)).toArray) = Str.mk _
  congr 2
  rw [List.take_of_length_le (by rw [List.length_drop]; omega)]
  by_cases h : m ≤ l.length
  · rw [Nat.min_eq_left h]
  · rw [Nat.min_eq_right (by omega), List.drop_eq_nil_of_le (Nat.le_refl _), List.drop_eq_nil_of_le (by omega)]
theorem join_len (a : Str) (ys : List Str) (h : a.length = 0) : (Txt.join a ys).length ≤ (ys.map (·.length)).sum := by
  unfold Txt.join
  rw [StrLaws.glued_eq_join]
  have := StrLaws.join_length_le a ys
  rw [h] at this
  omega
/-- an item of a text within its length -/
theorem at_txt (z : Str) {i : Int} (h0 : 0 ≤ i) (h1 : i < (z.length : Int)) : ∃ c, atI z.cps.toList i = some c := by
  have hl : z.cps.toList.length = z.length := Array.length_toList
  have hn : i.toNat < z.cps.toList.length := by omega
  refine ⟨z.cps.toList[i.toNat], ?_⟩
  unfold atI ixN
  rw [if_pos h0, if_pos (by omega)]
  exact List.getElem?_eq_getElem hn
end Vf

set_option maxRecDepth 100000
set_option maxHeartbeats 8000000
namespace Vf
open PySem PySem.Spec PyProof.Rows L2
def topS (i : Nat) : Stmt := PySem.Challenge.pw_nearcurves_k08_whole_first_wrong_signs_o.main.body.getD i (.Pass ⟨0, 0, 0, 0⟩)
/-! ### the pen -/
def penL (l : Addr) (at_ dg ct fo : Int) : List (Key × V) := [(.inr "cells", .ref l), (.inr "at", .int at_), (.inr "digits", .int dg), (.inr "count", .int ct), (.inr "fold", .int fo)]
section
variable {l : Addr} {a d c f x : Int}
theorem pv1 : valV (penL l a d c f) (.inr "cells") = some (.ref l) := by kernel_rfl
theorem pv2 : valV (penL l a d c f) (.inr "at") = some (.int a) := by kernel_rfl
theorem pv3 : valV (penL l a d c f) (.inr "digits") = some (.int d) := by kernel_rfl
theorem pv4 : valV (penL l a d c f) (.inr "count") = some (.int c) := by kernel_rfl
theorem pv5 : valV (penL l a d c f) (.inr "fold") = some (.int f) := by kernel_rfl
theorem pp2 : putK (penL l a d c f) (.inr "at") (.int x) = penL l x d c f := by kernel_rfl
theorem pp3 : putK (penL l a d c f) (.inr "digits") (.int x) = penL l a x c f := by kernel_rfl
theorem pp4 : putK (penL l a d c f) (.inr "count") (.int x) = penL l a d x f := by kernel_rfl
theorem pp5 : putK (penL l a d c f) (.inr "fold") (.int x) = penL l a d c x := by kernel_rfl
theorem pm : mergeK [] [(.inr "cells", .ref l), (.inr "at", .int 0), (.inr "digits", .int 0), (.inr "count", .int 0), (.inr "fold", .int f)] = penL l 0 0 0 f := by kernel_rfl
end
/-- a pen at p that has been asked at most B times -/
structure PenC (at_ dg ct fo B : Int) : Prop where
  a0 : 0 ≤ at_
  d0 : 0 ≤ dg
  c0 : 0 ≤ ct
  cB : ct ≤ B
  f0 : 0 ≤ fo
  f1 : fo < 2147483587
def PenAt (H : Hp) (p l : Addr) (ns : List Int) (at_ dg ct fo : Int) : Prop := H p = some (.dK (penL l at_ dg ct fo)) ∧ H l = some (.lst (ns.map V.int)) ∧ ns.length ≤ 63
def Pen (H : Hp) (p l : Addr) (B : Int) : Prop := ∃ ns at_ dg ct fo, PenAt H p l ns at_ dg ct fo ∧ PenC at_ dg ct fo B
/-- all but p stands as it stood -/
def Kp (p : Addr) (H H' : Hp) : Prop := ∀ b o, b ≠ p → H b = some o → H' b = some o
theorem Kp.refl {p : Addr} {H : Hp} : Kp p H H := fun _ _ _ h => h
theorem Kp.trans {p : Addr} {H H1 H2 : Hp} (a : Kp p H H1) (b : Kp p H1 H2) : Kp p H H2 := fun c o n h => b c o n (a c o n h)
theorem Kp.of {p : Addr} {H H' : Hp} (s : Same H H') : Kp p H H' := fun b o _ h => s b o h
theorem same_upd {H : Hp} {p : Addr} {o : HO} (n : H p = none) : Same H (upd H p o) := fun b u e => by rw [upd_ne (ne_of_none e n)]; exact e
/-- the heap without p -/
def wo (p : Addr) (H : Hp) : Hp := fun b => if b = p then none else H b
theorem Kp.wo {p : Addr} {H H' : Hp} (k : Kp p H H') : Same (wo p H) (wo p H') := fun b o e => by
  unfold Vf.wo at e ⊢
  by_cases h : b = p
  · rw [if_pos h] at e
    cases e
  · rw [if_neg h] at e ⊢
    exact k b o h e
theorem wo_sub {p : Addr} {H : Hp} : Same (wo p H) H := fun b o e => by
  unfold Vf.wo at e
  by_cases h : b = p
  · rw [if_pos h] at e
    cases e
  · rw [if_neg h] at e
    exact e
theorem wo_at {p b : Addr} {H : Hp} {o : HO} (h : b ≠ p) (e : H b = some o) : wo p H b = some o := by
  unfold Vf.wo
  rw [if_neg h]
  exact e
theorem PenAt.ne {H : Hp} {p l : Addr} {ns : List Int} {a d c f : Int} (h : PenAt H p l ns a d c f) : l ≠ p := ne_of h.2.1 h.1 (by intro z; cases z)
theorem PenAt.same {H H' : Hp} {p l : Addr} {ns : List Int} {a d c f : Int} (h : PenAt H p l ns a d c f) (s : Same H H') : PenAt H' p l ns a d c f := ⟨s _ _ h.1, s _ _ h.2.1, h.2.2⟩
theorem Pen.same {H H' : Hp} {p l : Addr} {B : Int} (h : Pen H p l B) (s : Same H H') : Pen H' p l B := by
  obtain ⟨ns, a, d, c, f, h1, h2⟩ := h
  exact ⟨ns, a, d, c, f, h1.same s, h2⟩
theorem Pen.more {H : Hp} {p l : Addr} {B B' : Int} (h : Pen H p l B) (e : B ≤ B') : Pen H p l B' := by
  obtain ⟨ns, a, d, c, f, h1, h2⟩ := h
  exact ⟨ns, a, d, c, f, h1, h2.a0, h2.d0, h2.c0, Int.le_trans h2.cB e, h2.f0, h2.f1⟩
theorem Pen.there {H : Hp} {p l : Addr} {B : Int} (h : Pen H p l B) : ∃ o, H p = some o := by
  obtain ⟨ns, a, d, c, f, h1, h2⟩ := h
  exact ⟨_, h1.1⟩
theorem PenAt.put {H : Hp} {p l : Addr} {ns : List Int} {a d c f a' d' c' f' : Int} (h : PenAt H p l ns a d c f) : PenAt (upd H p (.dK (penL l a' d' c' f'))) p l ns a' d' c' f' :=
  ⟨upd_same, by rw [upd_ne h.ne]; exact h.2.1, h.2.2⟩
theorem kp_upd {H : Hp} {p : Addr} {o : HO} : Kp p H (upd H p o) := fun b u n e => by rw [upd_ne n]; exact e

def spPen (K : PySem.W.Frag) : Sp := fun vs H Q _ => ∃ (a : Addr) (ns : List Int), vs = [.ref a] ∧ SqL K H a (ns.map V.int) ∧ ns.length ≤ 63 ∧ ∀ (p l : Addr) (H' : Hp), Same H H' → H p = none → H l = none → Pen H' p l 0 → Q (.ref p) H'
def spDraw : Sp := fun vs H Q _ => ∃ (p l : Addr) (B many : Int), vs = [.ref p, .int many] ∧ Pen H p l B ∧ B ≤ 1000000000 ∧ 0 < many ∧ many < 1000000 ∧
  ∀ (z : Int) (H' : Hp), 0 ≤ z → z < many → Pen H' p l (B + 1) → Kp p H H' → Q (.int z) H'
def spPick : Sp := fun vs H Q _ => ∃ (p l s : Addr) (B : Int) (xs : List V), vs = [.ref p, .ref s] ∧ Pen H p l B ∧ B ≤ 1000000000 ∧ H s = some (.lst xs) ∧ s ≠ p ∧ 0 < xs.length ∧ xs.length < 1000000 ∧
  ∀ (x : V) (H' : Hp), x ∈ xs → Pen H' p l (B + 1) → Kp p H H' → Q x H'
def spFar : Sp := fun vs H Q _ => ∃ (p l : Addr) (B : Int), vs = [.ref p] ∧ Pen H p l B ∧ B ≤ 100000000 ∧
  ∀ (z : Int) (H' : Hp), -1000000000000000000 < z → z < 1000000000000000000 → Pen H' p l (B + 8) → Kp p H H' → Q (.int z) H'
/-- built-in names that the text leaves alone -/
structure Bi (mg : Str → Option Value) : Prop where
  int : mg "int" = none
  list : mg "list" = none
  len : mg "len" = none
  range : mg "range" = none
/-- a def of the text that raises nothing -/
structure Df (P : Program) (w : World) (K : PySem.W.Frag) (mg : Str → Option Value) (base : Heap) (x : Str) (k : Nat) (ps : List Str) (sp : Sp) where
  f : Addr
  fd : FuncData
  m : mg x = some (.ref f)
  kp : PySem.W.keepIn K (.ref f) = true
  b : Binds K fd ps []
  ok : FnOk P w K mg base CX0 k f fd ps sp

abbrev sPen : Stmt := topS 45
abbrev sDraw : Stmt := topS (45 + 1)
abbrev sPick : Stmt := topS (45 + 2)
section
variable {P : Program} {w : World} {K : PySem.W.Frag} {mg : Str → Option Value} {base : Heap}
theorem scPen : FnScope ["_law_script", "_law_fold", "_law_cell"] ["_law_script"] (defScope sPen) := ⟨rfl, rfl, rfl, by decide +kernel, rfl, by decide +kernel, by decide +kernel⟩
theorem ok_pen {f : Addr} {fd : FuncData} (F : Fun K "_law_pen" "_law_pen" sPen f fd) (T : Bi mg) : FnOk P w K mg base CX0 1 f fd ["_law_script"] (spPen K) := by
  refine F.ok scPen (fun vs H Q E h => ?_) (fun cdv A outer s H vs Q E hr h => ?_)
  · obtain ⟨a, ns, rfl, _⟩ := h
    rfl
  · obtain ⟨a, ns, rfl, hS, hl, k⟩ := h
    refine ⟨_, (pss_cons (ps_set (i := 1) scPen.nd rfl (Or.inl rfl) pe_int)
      (pss_cons (ps_for PassesOwn.never rfl (pi_list (pv 0)) (pg_name (i := 2) scPen.nd rfl (Or.inl rfl))
        (pss_one (ps_set (i := 1) scPen.nd rfl (Or.inl rfl) (pe_op op_mod (pe_callTy call_int1 (by rfl) T.int (by decide +kernel) (pa_cons (pe_op op_add (pe_op op_mul (pv 1) pe_int) (pv 2)) pa_nil)) pe_int))))
      (pss_one (ps_ret (pe_disp (pps_cons pe_str (pe_callTy call_list_of (by rfl) T.list (by decide +kernel) (pa_cons (pv 0) pa_nil)) (pps_cons pe_str pe_int (pps_cons pe_str pe_int (pps_cons pe_str pe_int (pps_cons pe_str (pv 1) pps_nil))))) (by rfl) (by rfl) (fun z => by cases z) (by decide)))))), ?_⟩
    refine ⟨_, rfl, a, rfl, ⟨_, hS⟩, for_list (K := K) (a := a) (xs := ns.map V.int) (fun i σ H2 => H2 = H ∧ ∃ (z : Int) (v : Option V), σ = [some (.ref a), some (.int z), v] ∧ 0 ≤ z ∧ z < 1000000007)
      ⟨rfl, 0, none, rfl, by decide, by decide⟩ (fun i σ H2 _ ⟨e, _⟩ => by rw [e]; exact hS) ?_ ?_⟩
    · rintro i y σ H2 hi ⟨rfl, z, v, rfl, h0, h1⟩
      obtain ⟨n, rfl⟩ : ∃ n, y = V.int n := by
        rw [List.getElem?_map] at hi
        cases e : ns[i]? with
        | none =>
          rw [e] at hi
          cases hi
        | some n =>
          rw [e] at hi
          exact ⟨n, (Option.some.inj hi).symm⟩
      refine ⟨_, rfl, _, _, rfl, rfl, .inl ⟨by omega, by omega⟩, _, rfl, _, _, rfl, rfl, .inl ⟨_, rfl, _, _, rfl, rfl, (by show (0 : Int) < 1000000007; decide), ?_⟩⟩
      exact ⟨rfl, _, _, rfl, Int.emod_nonneg _ (by decide), Int.emod_lt_of_pos _ (by decide)⟩
    · rintro σ H2 ⟨rfl, z, v, rfl, h0, h1⟩
      intro p np
      refine ⟨_, rfl, a, _, rfl, .inl ((same_upd np).seq hS), fun l nl => ?_⟩
      refine ⟨_, rfl, ?_⟩
      have npl : p ≠ l := ne_of_none upd_same nl
      refine ⟨by rw [upd_ne npl]; exact upd_same, [(.inr "cells", .ref l), (.inr "at", .int 0), (.inr "digits", .int 0), (.inr "count", .int 0), (.inr "fold", .int z)], rfl, (by show 5 ≤ 15; decide), ?_⟩
      rw [pm]
      have nl2 : H2 l = none := by
        have q := nl
        rw [upd_ne npl.symm] at q
        exact q
      refine k p l _ (fun b o e => ?_) np nl2 ⟨ns, 0, 0, 0, z, ⟨upd_same, by rw [upd_ne npl.symm]; exact upd_same, hl⟩, by decide, by decide, by decide, by decide, h0, by omega⟩
      rw [upd_ne (ne_of_none e np), upd_ne (ne_of_none e nl2), upd_ne (ne_of_none e np)]
      exact e
theorem scDraw : FnScope ["_law_pen_here", "_law_many", "_law_cell", "_law_digit", "_law_mixed"] ["_law_pen_here", "_law_many"] (defScope sDraw) := ⟨rfl, rfl, rfl, by decide +kernel, rfl, by decide +kernel, by decide +kernel⟩
theorem ok_draw {f : Addr} {fd : FuncData} (F : Fun K "_law_draw" "_law_draw" sDraw f fd) (T : Bi mg) : FnOk P w K mg base CX0 1 f fd ["_law_pen_here", "_law_many"] spDraw := by
  refine F.ok scDraw (fun vs H Q E h => ?_) (fun cdv A outer s H vs Q E hr h => ?_)
  · obtain ⟨p, l, B, m, rfl, _⟩ := h
    rfl
  · obtain ⟨p, l, B, m, rfl, ⟨ns, a0, d0, c0, f0, hP, hC⟩, hB, hm0, hm1, k⟩ := h
    have hu := hu_of hr
    have small : ∀ {l : Addr} {a d c f : Int}, (penL l a d c f).length < sizeLine := by intros; show 5 < sizeLine; decide
    refine ⟨_, (pss_cons (ps_dput hu (pv 0) pe_str (pe_op op_add (pe_dget hu (pv 0) pe_str (fun _ _ => rfl)) pe_int) rfl)
  (C8.pss_cut (ps_if (PW.pt (pw_and (pt_cmpR op_eq (pe_dget hu (pv 0) pe_str (fun _ _ => rfl)) pe_int (nomark _)) (pw_and1 (pt_cmpR op_lt (pe_dget hu (pv 0) pe_str (fun _ _ => rfl)) (pe_callB call_len_seq (by rfl) T.len (by decide +kernel) (pa_cons (pe_dget hu (pv 0) pe_str (fun _ _ => rfl)) pa_nil)) (nomark _)))))
    (pss_cons (ps_set (i := 2) scDraw.nd rfl (Or.inl rfl) (pe_ix ix_list (pe_dget hu (pv 0) pe_str (fun _ _ => rfl)) (pe_dget hu (pv 0) pe_str (fun _ _ => rfl)) (fun _ _ => rfl)))
    (pss_cons (ps_dput hu (pv 0) pe_str (pe_op op_add (pe_dget hu (pv 0) pe_str (fun _ _ => rfl)) pe_int) rfl)
    (pss_one (ps_if (pt_cmpR op_ge (pv 2) (pe_op op_pow pe_int pe_int) (nomark _))
      (pss_one (ps_dput hu (pv 0) pe_str (pe_op op_sub (pv 2) (pe_op op_pow pe_int pe_int)) rfl))
      (pss_one (ps_dput hu (pv 0) pe_str (pe_op op_mod (pe_callTy call_int1 (by rfl) T.int (by decide +kernel) (pa_cons (pe_op op_add (pe_op op_mul (pe_dget hu (pv 0) pe_str (fun _ _ => rfl)) pe_int) (pv 2)) pa_nil)) pe_int) rfl))))))
    pss_nil)
  (pss_cons (ps_if (pt_cmpR op_gt (pe_dget hu (pv 0) pe_str (fun _ _ => rfl)) pe_int (nomark _))
    (pss_cons (ps_set (i := 3) scDraw.nd rfl (Or.inl rfl) (pe_op op_mod (pe_callTy call_int1 (by rfl) T.int (by decide +kernel) (pa_cons (pe_dget hu (pv 0) pe_str (fun _ _ => rfl)) pa_nil)) (pv 1)))
    (pss_cons (ps_dput hu (pv 0) pe_str (pe_op op_fdiv (pe_dget hu (pv 0) pe_str (fun _ _ => rfl)) (pv 1)) rfl)
    (pss_one (ps_ret (pv 3)))))
    pss_nil)
  (pss_cons (ps_set (i := 4) scDraw.nd rfl (Or.inl rfl) (pe_op op_add (pe_op op_add (pe_dget hu (pv 0) pe_str (fun _ _ => rfl)) (pe_op op_mul (pe_dget hu (pv 0) pe_str (fun _ _ => rfl)) pe_int)) pe_int))
  (pss_one (ps_ret (pe_op op_mod (pe_op op_fdiv (pe_callTy call_int1 (by rfl) T.int (by decide +kernel) (pa_cons (pe_op op_mod (pe_op op_pow (pv 4) pe_int) pe_int) pa_nil)) pe_int) (pv 1)))))))), ?_⟩
    -- count
    refine ⟨_, rfl, p, .int c0, rfl, ?_, _, _, rfl, rfl, _, rfl, p, _, rfl, DPut.k (k := Sum.inr "count") hP.1 small, ?_⟩
    · have q := DGet.k (k := (Sum.inr "count" : Key)) hP.1
      rw [pv4] at q
      exact q
    rw [pp4]
    have hP1 := hP.put (a' := a0) (d' := d0) (c' := c0 + 1) (f' := f0)
    generalize hH1 : upd H p (.dK (penL l a0 d0 (c0 + 1) f0)) = H1 at hP1
    have k1 : Kp p H H1 := by rw [← hH1]; exact kp_upd
    clear hH1
    -- the cut: a pen again
    refine ⟨fun σ H2 => ∃ (v2 : Option V) (a d c f : Int), σ = [some (.ref p), some (.int m), v2, none, none] ∧ PenAt H2 p l ns a d c f ∧ PenC a d c f (B + 1) ∧ Kp p H H2, ?_, ?_⟩
    · have g3 : DGet H1 p (kV (Sum.inr "digits")) (some (.int d0)) := by
        have q := DGet.k (k := (Sum.inr "digits" : Key)) hP1.1
        rw [pv3] at q
        exact q
      have g2 : DGet H1 p (kV (Sum.inr "at")) (some (.int a0)) := by
        have q := DGet.k (k := (Sum.inr "at" : Key)) hP1.1
        rw [pv2] at q
        exact q
      have g1 : DGet H1 p (kV (Sum.inr "cells")) (some (.ref l)) := by
        have q := DGet.k (k := (Sum.inr "cells" : Key)) hP1.1
        rw [pv1] at q
        exact q
      refine ⟨_, rfl, p, _, rfl, g3, rfl, _, rfl, ?_⟩
      have stay : ∃ (v2 : Option V) (a d c f : Int), start ["_law_pen_here", "_law_many", "_law_cell", "_law_digit", "_law_mixed"] [V.ref p, V.int m] = [some (.ref p), some (.int m), v2, none, none] ∧ PenAt H1 p l ns a d c f ∧ PenC a d c f (B + 1) ∧ Kp p H H1 :=
        ⟨none, a0, d0, c0 + 1, f0, rfl, hP1, ⟨hC.a0, hC.d0, by have := hC.c0; omega, by have := hC.cB; omega, hC.f0, hC.f1⟩, k1⟩
      by_cases hd : d0 = 0
      · rw [decide_eq_true (by rw [hd])]
        refine iteT ?_
        refine ⟨_, rfl, p, _, rfl, g2, _, rfl, p, _, rfl, g1, l, _, rfl, .inl (SqL.of hP1.2.1), _, _, rfl, rfl, _, rfl, ?_⟩
        rw [List.length_map]
        by_cases ha : a0 < (ns.length : Int)
        · rw [decide_eq_true ha]
          refine iteT ?_
          have han : a0.toNat < ns.length := by have := hC.a0; omega
          have hat : (ns.map V.int)[a0.toNat]? = some (V.int ns[a0.toNat]) := by
            rw [List.getElem?_map, List.getElem?_eq_getElem han]
            rfl
          generalize ns[a0.toNat] = z at hat
          refine ⟨_, rfl, p, _, rfl, g1, _, rfl, p, _, rfl, g2, l, _, a0, .int z, rfl, rfl, SqL.of hP1.2.1, at_of (j := a0.toNat) (by have := hC.a0; omega) hat, ?_⟩
          refine ⟨_, rfl, p, _, rfl, g2, _, _, rfl, rfl, _, rfl, p, _, rfl, DPut.k (k := Sum.inr "at") hP1.1 small, ?_⟩
          rw [pp2]
          have hP2 := hP1.put (a' := a0 + 1) (d' := d0) (c' := c0 + 1) (f' := f0)
          generalize hH2 : upd H1 p (.dK (penL l (a0 + 1) d0 (c0 + 1) f0)) = H2 at hP2
          have k2 : Kp p H H2 := by rw [← hH2]; exact k1.trans kp_upd
          clear hH2
          refine ⟨_, rfl, _, _, rfl, rfl, ⟨by decide, by decide, by decide⟩, _, _, rfl, rfl, _, rfl, ?_⟩
          refine ite2 (fun hz => ?_) (fun hz => ?_)
          · have hz2 : (10 : Int) ^ (18 : Int).toNat ≤ z := of_decide_eq_true hz
            refine ⟨_, rfl, _, _, rfl, rfl, ⟨by decide, by decide, by decide⟩, _, _, rfl, rfl, _, rfl, p, _, rfl, DPut.k (k := Sum.inr "digits") hP2.1 small, ?_⟩
            rw [pp3]
            exact ⟨_, a0 + 1, _, c0 + 1, f0, rfl, hP2.put, ⟨by have := hC.a0; omega, by omega, by have := hC.c0; omega, by have := hC.cB; omega, hC.f0, hC.f1⟩, k2.trans kp_upd⟩
          · refine ⟨_, rfl, p, .int f0, rfl, ?_, _, _, rfl, rfl, .inl ⟨?_, ?_⟩, _, rfl, _, _, rfl, rfl, .inl ⟨_, rfl, _, _, rfl, rfl, (by show (0 : Int) < 2147483587; decide), _, rfl, p, _, rfl, DPut.k (k := Sum.inr "fold") hP2.1 small, ?_⟩⟩
            · have q := DGet.k (k := (Sum.inr "fold" : Key)) hP2.1
              rw [pv5] at q
              exact q
            · have := hC.f0; omega
            · have := hC.f1; omega
            rw [pp5]
            exact ⟨_, a0 + 1, d0, c0 + 1, _, rfl, hP2.put, ⟨by have := hC.a0; omega, hC.d0, by have := hC.c0; omega, by have := hC.cB; omega, Int.emod_nonneg _ (by decide), Int.emod_lt_of_pos _ (by decide)⟩, k2.trans kp_upd⟩
        · rw [decide_eq_false ha]
          refine iteF ?_
          exact stay
      · rw [decide_eq_false (fun z => hd (by have z2 := V.int.inj z; exact z2))]
        refine iteF ?_
        exact stay
    · rintro σ H2 ⟨v2, a, d, c, f, rfl, hP2, hC2, k2⟩
      have g3 : DGet H2 p (kV (Sum.inr "digits")) (some (.int d)) := by
        have q := DGet.k (k := (Sum.inr "digits" : Key)) hP2.1
        rw [pv3] at q
        exact q
      refine ⟨_, rfl, p, _, rfl, g3, _, _, rfl, rfl, _, rfl, ?_⟩
      refine ite2 (fun hz => ?_) (fun hz => ?_)
      · have hz2 : 0 < d := of_decide_eq_true hz
        refine ⟨_, rfl, p, _, rfl, g3, .inl ⟨_, rfl, _, rfl, _, _, rfl, rfl, hm0, ?_⟩⟩
        refine ⟨_, rfl, p, _, rfl, g3, _, rfl, _, _, rfl, rfl, ⟨hm0, by omega⟩, _, rfl, p, _, rfl, DPut.k (k := Sum.inr "digits") hP2.1 small, ?_⟩
        rw [pp3]
        exact ⟨_, rfl, k _ _ (Int.emod_nonneg _ (by omega)) (Int.emod_lt_of_pos _ hm0) ⟨ns, a, _, c, f, hP2.put, hC2.a0, Int.ediv_nonneg hC2.d0 (by omega), hC2.c0, hC2.cB, hC2.f0, hC2.f1⟩ (k2.trans kp_upd)⟩
      · refine ⟨_, rfl, p, .int f, rfl, ?_, _, rfl, p, .int c, rfl, ?_, _, _, rfl, rfl, .inl ⟨?_, ?_⟩, _, _, rfl, rfl, _, _, rfl, rfl, ?_⟩
        · have q := DGet.k (k := (Sum.inr "fold" : Key)) hP2.1
          rw [pv5] at q
          exact q
        · have q := DGet.k (k := (Sum.inr "count" : Key)) hP2.1
          rw [pv4] at q
          exact q
        · have := hC2.c0; omega
        · have := hC2.cB; omega
        have b1 := hC2.c0
        have b2 := hC2.cB
        have b3 := hC2.f0
        have b4 := hC2.f1
        refine ⟨_, rfl, _, _, rfl, rfl, ⟨by decide, by decide, ?_⟩, _, _, rfl, rfl, (by show (0 : Int) < 2305843009213693951; decide), .inl ⟨_, rfl, _, _, rfl, rfl, ⟨by decide, by decide⟩, _, rfl, _, _, rfl, rfl, hm0, ?_⟩⟩
        · show (f + c * 7907 + 43).natAbs < 2 ^ 64
          omega
        exact k _ _ (Int.emod_nonneg _ (by omega)) (Int.emod_lt_of_pos _ hm0) ⟨ns, a, d, c, f, hP2, hC2⟩ k2
theorem scPick : FnScope ["_law_pen_here", "_law_some"] ["_law_pen_here", "_law_some"] (defScope sPick) := ⟨rfl, rfl, rfl, by decide +kernel, rfl, by decide +kernel, by decide +kernel⟩
theorem ok_pick {f : Addr} {fd : FuncData} (F : Fun K "_law_pick" "_law_pick" sPick f fd) (T : Bi mg) (G : Df P w K mg base "_law_draw" 1 ["_law_pen_here", "_law_many"] spDraw) : FnOk P w K mg base CX0 2 f fd ["_law_pen_here", "_law_some"] spPick := by
  refine F.ok scPick (fun vs H Q E h => ?_) (fun cdv A outer s H vs Q E hr h => ?_)
  · obtain ⟨p, l, s, B, xs, rfl, _⟩ := h
    rfl
  · obtain ⟨p, l, s, B, xs, rfl, hP, hB, hs, hne, h0, h1, k⟩ := h
    refine ⟨_, (pss_one (ps_ret (pe_ix ix_list (pv 1) (pe_call G.ok hr rfl G.m G.kp G.b .nil pass0 (pa_cons (pv 0) (pa_cons (pe_callB call_len_seq (by rfl) T.len (by decide +kernel) (pa_cons (pv 1) pa_nil)) pa_nil))) (fun _ _ => rfl)))), ?_⟩
    refine ⟨_, rfl, _, rfl, _, rfl, s, _, rfl, .inl (SqL.of hs), p, l, B, _, rfl, hP, hB, by omega, by omega, fun z H' z0 z1 hP' kp => ?_⟩
    have hzn : z.toNat < xs.length := by omega
    exact ⟨s, xs, z, xs[z.toNat], rfl, rfl, SqL.of (kp _ _ hne hs), at_of (j := z.toNat) (by omega) (List.getElem?_eq_getElem hzn), k _ _ (List.getElem_mem hzn) hP' kp⟩
end

end Vf

set_option maxRecDepth 100000
set_option maxHeartbeats 8000000
namespace Vf
open PySem PySem.Spec PyProof.Rows L2
/-! ### the errors' own __init__ -/
def fl (names : List Str) (xs : List V) : List (Str × V) := (names.zip xs).reverse
/-- self.f = f, for each of the names -/
def spIni (C : Addr) (names : List Str) : Sp := fun vs H Q _ => ∃ (a : Addr) (xs : List V), vs = .ref a :: xs ∧ xs.length = names.length ∧ H a = some (exo a C none) ∧
  ∀ (d : Addr) (H' : Hp), H d = none → d ≠ a → H' a = some (exo a C (some d)) → H' d = some (exd d (fl names xs)) → (∀ b o, b ≠ a → H b = some o → H' b = some o) → Q .non H'
theorem keep2 {H : Hp} {a d : Addr} {o u : HO} (n : H d = none) : ∀ b z, b ≠ a → H b = some z → upd (upd H d o) a u b = some z := fun b z h e => by
  rw [upd_ne h, upd_ne (ne_of_none e n)]
  exact e
theorem keep3 {H1 H : Hp} {a d : Addr} {u : HO} (n : H d = none) (k : ∀ b z, b ≠ a → H b = some z → H1 b = some z) : ∀ b z, b ≠ a → H b = some z → upd H1 d u b = some z := fun b z h e => by
  rw [upd_ne (ne_of_none e n)]
  exact k b z h e
section
variable {P : Program} {w : World} {K : PySem.W.Frag} {mg : Str → Option Value} {base : Heap}
theorem scBadText : FnScope ["self", "column"] ["self", "column"] (defScope (inClass (topS 7) 0)) := ⟨rfl, rfl, rfl, by decide +kernel, rfl, by decide +kernel, by decide +kernel⟩
theorem iniBadText {f C : Addr} {fd : FuncData} (F : Fun K "__init__" "BadText.__init__" (inClass (topS 7) 0) f fd) (T : OexC K C) (n1 : PySem.W.findIn K (.ref C) "column" = some none) :
    FnOk P w K mg base CX0 1 f fd ["self", "column"] (spIni C ["column"]) := by
  refine F.ok scBadText (fun vs H Q E h => ?_) (fun cdv A outer s H vs Q E hr h => ?_)
  · obtain ⟨a, xs, rfl, hl, _⟩ := h
    rw [List.length_cons, hl]
    all_goals rfl
  · obtain ⟨a, xs, rfl, hl, ha, k⟩ := h
    match xs, hl with
    | [v1], _ =>
    refine ⟨_, (pss_one (ps_ost (pv 0) (pv 1))), ?_⟩
    refine ⟨_, rfl, _, rfl, a, C, rfl, T, n1, .inl ⟨ha, fun d nd ne => ?_⟩⟩
    exact k d _ nd ne upd_same (by rw [upd_ne ne]; exact upd_same) (keep2 nd)
theorem scBadNumber : FnScope ["self", "what", "number"] ["self", "what", "number"] (defScope (inClass (topS 8) 0)) := ⟨rfl, rfl, rfl, by decide +kernel, rfl, by decide +kernel, by decide +kernel⟩
theorem iniBadNumber {f C : Addr} {fd : FuncData} (F : Fun K "__init__" "BadNumber.__init__" (inClass (topS 8) 0) f fd) (T : OexC K C) (n1 : PySem.W.findIn K (.ref C) "what" = some none) (n2 : PySem.W.findIn K (.ref C) "number" = some none) :
    FnOk P w K mg base CX0 1 f fd ["self", "what", "number"] (spIni C ["what", "number"]) := by
  refine F.ok scBadNumber (fun vs H Q E h => ?_) (fun cdv A outer s H vs Q E hr h => ?_)
  · obtain ⟨a, xs, rfl, hl, _⟩ := h
    rw [List.length_cons, hl]
    all_goals rfl
  · obtain ⟨a, xs, rfl, hl, ha, k⟩ := h
    match xs, hl with
    | [v1, v2], _ =>
    refine ⟨_, (pss_cons (ps_ost (pv 0) (pv 1)) (pss_one (ps_ost (pv 0) (pv 2)))), ?_⟩
    refine ⟨_, rfl, _, rfl, a, C, rfl, T, n1, .inl ⟨ha, fun d nd ne => ?_⟩⟩
    have e1 : (upd (upd H d (exd d [("what", v1)])) a (exo a C (some d))) a = some (exo a C (some d)) := upd_same
    have e2 : (upd (upd H d (exd d [("what", v1)])) a (exo a C (some d))) d = some (exd d [("what", v1)]) := by rw [upd_ne ne]; exact upd_same
    have e3 := keep2 (H := H) (a := a) (d := d) (o := exd d [("what", v1)]) (u := exo a C (some d)) nd
    generalize upd (upd H d (exd d [("what", v1)])) a (exo a C (some d)) = H1 at e1 e2 e3
    refine ⟨_, rfl, _, rfl, a, C, rfl, T, n2, .inr ⟨d, _, e1, e2, (by show 1 ≤ 900; decide), ?_⟩⟩
    exact k d _ nd ne (by rw [upd_ne ne.symm]; exact e1) upd_same (keep3 nd e3)
theorem scBadRow : FnScope ["self", "row"] ["self", "row"] (defScope (inClass (topS 9) 0)) := ⟨rfl, rfl, rfl, by decide +kernel, rfl, by decide +kernel, by decide +kernel⟩
theorem iniBadRow {f C : Addr} {fd : FuncData} (F : Fun K "__init__" "BadRow.__init__" (inClass (topS 9) 0) f fd) (T : OexC K C) (n1 : PySem.W.findIn K (.ref C) "row" = some none) :
    FnOk P w K mg base CX0 1 f fd ["self", "row"] (spIni C ["row"]) := by
  refine F.ok scBadRow (fun vs H Q E h => ?_) (fun cdv A outer s H vs Q E hr h => ?_)
  · obtain ⟨a, xs, rfl, hl, _⟩ := h
    rw [List.length_cons, hl]
    all_goals rfl
  · obtain ⟨a, xs, rfl, hl, ha, k⟩ := h
    match xs, hl with
    | [v1], _ =>
    refine ⟨_, (pss_one (ps_ost (pv 0) (pv 1))), ?_⟩
    refine ⟨_, rfl, _, rfl, a, C, rfl, T, n1, .inl ⟨ha, fun d nd ne => ?_⟩⟩
    exact k d _ nd ne upd_same (by rw [upd_ne ne]; exact upd_same) (keep2 nd)
end
/-! ### ratios: the program's own defs -/
def tyD : PyData → String
  | .none => "NoneType"
  | .bool _ => "bool"
  | .int _ => "int"
  | .str _ => "str"
  | .list _ => "list"
  | .tuple _ => "tuple"
  | .dict _ => "dict"
theorem Dt.ty {K : PySem.W.Frag} {H : Hp} {v : V} {d : PyData} (h : Dt K H v d) : TyX K H v (.type (tyD d)) := by
  cases h with
  | non => exact .base .non
  | bl b => exact .base (.bl b)
  | int i => exact .base (.int i)
  | str x => exact .base (.str x)
  | lst h1 _ =>
    rcases h1 with (h1 | ⟨o, h1⟩) | ⟨o, _, _, h1, h2, _⟩
    · exact .base (.lst h1)
    · exact .base (.frz h1)
    · exact .kList h1 h2
  | tup h1 _ =>
    rcases h1 with (h1 | ⟨o, h1⟩) | ⟨o, _, _, h1, h2, _⟩
    · exact .base (.tup h1)
    · exact .fTuple h1
    · exact .kTuple h1 h2
  | dct h1 _ => exact .base (.dK h1)
def intD : PyData → Bool
  | .int _ => true
  | .bool _ => true
  | _ => false
def boolD : PyData → Bool
  | .bool _ => true
  | _ => false
def wholeD : PyData → Bool
  | .int _ => true
  | _ => false
theorem kit_int {K : PySem.W.Frag} (d : PyData) : PySem.W.kitOne K (.type (tyD d)) (.type "int") = some (intD d) := by
  cases d with
  | none => exact kit_ty (show kitB "NoneType" "int" = some false by decide +kernel)
  | bool _ => exact kit_ty (show kitB "bool" "int" = some true by decide +kernel)
  | int _ => exact kit_ty (show kitB "int" "int" = some true by decide +kernel)
  | str _ => exact kit_ty (show kitB "str" "int" = some false by decide +kernel)
  | list _ => exact kit_ty (show kitB "list" "int" = some false by decide +kernel)
  | tuple _ => exact kit_ty (show kitB "tuple" "int" = some false by decide +kernel)
  | dict _ => exact kit_ty (show kitB "dict" "int" = some false by decide +kernel)
theorem kit_bool {K : PySem.W.Frag} (d : PyData) : PySem.W.kitOne K (.type (tyD d)) (.type "bool") = some (boolD d) := by
  cases d with
  | none => exact kit_ty (show kitB "NoneType" "bool" = some false by decide +kernel)
  | bool _ => exact kit_ty (show kitB "bool" "bool" = some true by decide +kernel)
  | int _ => exact kit_ty (show kitB "int" "bool" = some false by decide +kernel)
  | str _ => exact kit_ty (show kitB "str" "bool" = some false by decide +kernel)
  | list _ => exact kit_ty (show kitB "list" "bool" = some false by decide +kernel)
  | tuple _ => exact kit_ty (show kitB "tuple" "bool" = some false by decide +kernel)
  | dict _ => exact kit_ty (show kitB "dict" "bool" = some false by decide +kernel)
/-- a ratio's top and bottom, as it is passed -/
def pair? : List PyData → Option (Int × Int)
  | [.int a, .int b] => if 0 < b then some (a, b) else none
  | _ => none
def partsD : PyData → Option (Int × Int)
  | .int i => some (i, 1)
  | .list ds => pair? ds
  | .tuple ds => pair? ds
  | _ => none
def seqD : PyData → Option (List PyData)
  | .list ds => some ds
  | .tuple ds => some ds
  | _ => none
theorem kit_seq {K : PySem.W.Frag} (d : PyData) : PySem.W.kitAny K (.type (tyD d)) [.type "tuple", .type "list"] = some (seqD d).isSome := by
  have two : ∀ {a b : Bool} {t : String}, kitB t "tuple" = some a → kitB t "list" = some b → PySem.W.kitAny K (.type t) [.type "tuple", .type "list"] = some (a || b) := fun {a b t} h1 h2 =>
    kitAny_cons (kit_ty h1) (fun e => by rw [e, Bool.false_or]; exact kitAny_cons (kit_ty h2) (fun e2 => by rw [e2]; exact kitAny_nil) (fun e2 => e2)) (fun e => by rw [e, Bool.true_or])
  cases d with
  | none => exact two (a := false) (b := false) (show kitB "NoneType" "tuple" = some false by decide +kernel) (show kitB "NoneType" "list" = some false by decide +kernel)
  | bool _ => exact two (a := false) (b := false) (show kitB "bool" "tuple" = some false by decide +kernel) (show kitB "bool" "list" = some false by decide +kernel)
  | int _ => exact two (a := false) (b := false) (show kitB "int" "tuple" = some false by decide +kernel) (show kitB "int" "list" = some false by decide +kernel)
  | str _ => exact two (a := false) (b := false) (show kitB "str" "tuple" = some false by decide +kernel) (show kitB "str" "list" = some false by decide +kernel)
  | list _ => exact two (a := false) (b := true) (show kitB "list" "tuple" = some false by decide +kernel) (show kitB "list" "list" = some true by decide +kernel)
  | tuple _ => exact two (a := true) (b := false) (show kitB "tuple" "tuple" = some true by decide +kernel) (show kitB "tuple" "list" = some false by decide +kernel)
  | dict _ => exact two (a := false) (b := false) (show kitB "dict" "tuple" = some false by decide +kernel) (show kitB "dict" "list" = some false by decide +kernel)
/-- built-in names that the text leaves alone, and gcd -/
structure Bk (mg : Str → Option Value) : Prop extends Bi mg where
  isinstance : mg "isinstance" = none
  bool : mg "bool" = none
  tuple : mg "tuple" = none
  abs : mg "abs" = none
  str : mg "str" = none
  gcd : mg "gcd" = some (.builtin "math.gcd")
/-- an error class with one __init__ of its own, as it is raised -/
structure Ex (P : Program) (w : World) (K : PySem.W.Frag) (mg : Str → Option Value) (base : Heap) (x : Str) (C : Addr) (names : List Str) where
  ox : OexC K C
  f : Addr
  fd : FuncData
  m : mg x = some (.ref C)
  iC : PySem.W.findIn K (.ref C) "__init__" = some (some (.ref f))
  tI : PySem.W.typeIn K (.ref f) = some (.type "function")
  b : Binds K fd ("self" :: names) []
  ok : FnOk P w K mg base CX0 1 f fd ("self" :: names) (spIni C names)
/-- a def of the text that may raise -/
structure Dx (P : Program) (w : World) (K : PySem.W.Frag) (mg : Str → Option Value) (base : Heap) (x : Str) (k : Nat) (ps : List Str) (sp : Sp) where
  f : Addr
  fd : FuncData
  m : mg x = some (.ref f)
  kp : PySem.W.keepIn K (.ref f) = true
  b : Binds K fd ps []
  ok : FnOk P w K mg base (L2.CX P w) k f fd ps sp
/-- what raise X(e, ..) leaves -/
theorem raise_end {C : Addr} {names : List Str} {H1 : Hp} {vs : List V} {W : XK} (hl : vs.length = names.length) (h : ∀ d H', Same H1 H' → H1 d = none → H' d = some (.xd (fl names vs)) → W (.ref C) (some d) H') :
    ∀ a, H1 a = none → spIni C names (.ref a :: (vs ++ [])) (upd H1 a (exo a C none)) (fun v H2 => v = .non ∧ ∃ (d : Addr) (fs : List (Str × V)), H2 a = some (exo a C (some d)) ∧ H2 d = some (exd d fs) ∧ H1 d = none ∧ W (.ref C) (some d) (upd (del H2 a) d (.xd fs))) (fun _ _ _ => False) := fun a na => by
  refine ⟨a, vs, by rw [List.append_nil], hl, upd_same, fun d H' nd ne ea ed k => ⟨rfl, d, fl names vs, ea, ed, ?_, ?_⟩⟩
  · rw [upd_ne ne] at nd
    exact nd
  · rw [upd_ne ne] at nd
    refine h d _ (fun b o e => ?_) nd upd_same
    have n1 := ne_of_none e na
    rw [upd_ne (ne_of_none e nd), del_ne n1]
    exact k b o n1 (by rw [upd_ne n1]; exact e)

def spWhole (K : PySem.W.Frag) : Sp := fun vs H Q _ => ∃ (v : V) (d : PyData), vs = [v] ∧ Dt K H v d ∧ Q (.bl (wholeD d)) H
def spIsRatio (K : PySem.W.Frag) : Sp := fun vs H Q _ => ∃ (v : V) (d : PyData), vs = [v] ∧ Dt K H v d ∧ ∀ H', Same H H' → Q (.bl (partsD d).isSome) H'
def big : Nat := 4000
def spLow : Sp := fun vs H Q _ => ∃ t b : Int, vs = [.int t, .int b] ∧ b ≠ 0 ∧ b.natAbs < 2 ^ big ∧ ∀ (p : Addr) (H' : Hp), Same H H' → H p = none → H' p = some (.tup [.int (low t b).1, .int (low t b).2]) → Q (.ref p) H'
/-- an error of BadNumber -/
def RaisesN (CN : Addr) (H : Hp) (wv v : V) (E : XK) : Prop := ∀ (d : Addr) (H' : Hp), Same H H' → H d = none → H' d = some (.xd (fl ["what", "number"] [wv, v])) → E (.ref CN) (some d) H'
theorem RaisesN.same {CN : Addr} {H H1 : Hp} {wv v : V} {E : XK} (s : Same H H1) (h : RaisesN CN H wv v E) : RaisesN CN H1 wv v E := fun d H' s' n e => h d H' (s.trans s') (s.free n) e
def spParts (K : PySem.W.Frag) (CN : Addr) : Sp := fun vs H Q E => ∃ (v wv : V) (d : PyData), vs = [v, wv] ∧ Dt K H v d ∧
  (∀ t b, partsD d = some (t, b) → ∀ (p : Addr) (H' : Hp), Same H H' → H' p = some (.tup [.int t, .int b]) → Q (.ref p) H') ∧ (partsD d = none → RaisesN CN H wv v E)
def spTold (K : PySem.W.Frag) (CN : Addr) : Sp := fun vs H Q E => ∃ (v wv : V) (d : PyData), vs = [v, wv] ∧ Dt K H v d ∧
  (∀ t b, partsD d = some (t, b) → b.natAbs < 2 ^ big ∧ ∀ (p : Addr) (H' : Hp), Same H H' → H' p = some (.tup [.int (low t b).1, .int (low t b).2]) → Q (.ref p) H') ∧ (partsD d = none → RaisesN CN H wv v E)
theorem pair_pos {ds : List PyData} {t b : Int} (h : pair? ds = some (t, b)) : ds = [.int t, .int b] ∧ 0 < b := by
  unfold pair? at h
  split at h
  · split at h
    · rename_i hb
      cases h
      exact ⟨rfl, hb⟩
    · cases h
  · cases h
theorem parts_pos {d : PyData} {t b : Int} (h : partsD d = some (t, b)) : 0 < b := by
  unfold partsD at h
  split at h
  · cases h
    decide
  · exact (pair_pos h).2
  · exact (pair_pos h).2
  · cases h
section
variable {P : Program} {w : World} {K : PySem.W.Frag} {mg : Str → Option Value} {base : Heap} {CN : Addr}
abbrev sIsWhole : Stmt := topS 15
abbrev sIsRatio : Stmt := topS 16
abbrev sLowest : Stmt := topS 18
abbrev sParts : Stmt := topS 19
abbrev sTold : Stmt := topS 20
theorem scIsWhole : FnScope ["value"] ["value"] (defScope sIsWhole) := ⟨rfl, rfl, rfl, by decide +kernel, rfl, by decide +kernel, by decide +kernel⟩
theorem ok_is_whole {f : Addr} {fd : FuncData} (F : Fun K "is_whole" "is_whole" sIsWhole f fd) (T : Bk mg) : FnOk P w K mg base CX0 1 f fd ["value"] (spWhole K) := by
  refine F.ok scIsWhole (fun vs H Q E h => ?_) (fun cdv A outer s H vs Q E hr h => ?_)
  · obtain ⟨v, d, rfl, _⟩ := h
    rfl
  · obtain ⟨v, d, rfl, hd, q⟩ := h
    refine ⟨_, (pss_one (ps_ret (pe_and (pe_callB call_isi (by rfl) T.isinstance (by decide +kernel) (pa_cons (pv 0) (pa_cons (pe_bltn (v := V.ty "int") (by rfl) T.int (by decide +kernel) rfl) pa_nil)))
      (pe_one (pe_not (pe_callB call_isi (by rfl) T.isinstance (by decide +kernel) (pa_cons (pv 0) (pa_cons (pe_bltn (v := V.ty "bool") (by rfl) T.bool (by decide +kernel) rfl) pa_nil)))))))), ?_⟩
    refine ⟨_, rfl, v, .ty "int", _, .type "int", _, rfl, .ty _, hd.ty, kit_int d, _, rfl, ?_⟩
    cases hi : intD d with
    | false =>
      refine iteF ?_
      have e : wholeD d = false := by cases d <;> first | rfl | (exact absurd hi (fun z => by cases z))
      rw [e] at q
      exact q
    | true =>
      refine iteT ?_
      refine ⟨_, rfl, v, .ty "bool", _, .type "bool", _, rfl, .ty _, hd.ty, kit_bool d, _, rfl, ?_⟩
      have e : wholeD d = !boolD d := by cases d <;> first | rfl | (exact absurd hi (fun z => by cases z))
      rw [e] at q
      exact q
theorem dts2 {H : Hp} {vs : List V} {a b : PyData} (h : Dts K H vs [a, b]) : ∃ x y, vs = [x, y] ∧ Dt K H x a ∧ Dt K H y b := by
  cases h with
  | cons h1 h2 =>
    cases h2 with
    | cons h3 h4 =>
      cases h4
      exact ⟨_, _, rfl, h1, h3⟩
/-- an item of a list or tuple -/
theorem seq_at {H : Hp} {a : Addr} {xs : List V} {Q : V → Hp → Prop} {z : Int} {x : V} (h : SqL K H a xs ∨ SqT K H a xs) (e : atI xs z = some x) (q : Q x H) : rIx K (.ref a) (.int z) H Q := by
  rcases h with h | h
  · exact .inl ⟨a, xs, z, x, rfl, rfl, h, e, q⟩
  · exact .inr (.inl ⟨a, xs, z, x, rfl, rfl, h, e, q⟩)
theorem Dt.seq {H : Hp} {v : V} {d : PyData} {ds : List PyData} (h : Dt K H v d) (e : seqD d = some ds) : ∃ a vs, v = .ref a ∧ (SqL K H a vs ∨ SqT K H a vs) ∧ Dts K H vs ds := by
  cases h with
  | lst h1 h2 =>
    cases e
    exact ⟨_, _, rfl, .inl h1, h2⟩
  | tup h1 h2 =>
    cases e
    exact ⟨_, _, rfl, .inr h1, h2⟩
  | _ => cases e
theorem seq_same {H H' : Hp} {a : Addr} {vs : List V} (s : Same H H') (h : SqL K H a vs ∨ SqT K H a vs) : SqL K H' a vs ∨ SqT K H' a vs := h.imp (same_sqL s) (same_sqT s)
theorem scIsRatio : FnScope ["value"] ["value"] (defScope sIsRatio) := ⟨rfl, rfl, rfl, by decide +kernel, rfl, by decide +kernel, by decide +kernel⟩
theorem ok_is_ratio {f : Addr} {fd : FuncData} (F : Fun K "is_ratio" "is_ratio" sIsRatio f fd) (T : Bk mg) (Gw : Df P w K mg base "is_whole" 1 ["value"] (spWhole K)) : FnOk P w K mg base CX0 2 f fd ["value"] (spIsRatio K) := by
  refine F.ok scIsRatio (fun vs H Q E h => ?_) (fun cdv A outer s H vs Q E hr h => ?_)
  · obtain ⟨v, d, rfl, _⟩ := h
    rfl
  · obtain ⟨v, d, rfl, hd, q⟩ := h
    refine ⟨_, (pss_cons (ps_if (pt_val (pe_callB call_isiT (by rfl) T.isinstance (by decide +kernel) (pa_cons (pv 0) (pa_cons (pe_tup (pa_cons (pe_bltn (v := V.ty "tuple") (by rfl) T.tuple (by decide +kernel) rfl) (pa_cons (pe_bltn (v := V.ty "list") (by rfl) T.list (by decide +kernel) rfl) pa_nil))) pa_nil))))
      (pss_one (ps_ret (pe_and (pe_cmpR op_eq (pe_callB call_len_seq (by rfl) T.len (by decide +kernel) (pa_cons (pv 0) pa_nil)) pe_int (nomark _)) (pe_and (pe_call Gw.ok hr rfl Gw.m Gw.kp Gw.b .nil pass0 (pa_cons (pe_ix ix_seq (pv 0) pe_int (fun _ _ => rfl)) pa_nil)) (pe_and (pe_call Gw.ok hr rfl Gw.m Gw.kp Gw.b .nil pass0 (pa_cons (pe_ix ix_seq (pv 0) pe_int (fun _ _ => rfl)) pa_nil)) (pe_one (pe_cmpR op_gt (pe_ix ix_seq (pv 0) pe_int (fun _ _ => rfl)) pe_int (nomark _))))))))
      pss_nil)
      (pss_one (ps_ret (pe_call Gw.ok hr rfl Gw.m Gw.kp Gw.b .nil pass0 (pa_cons (pv 0) pa_nil))))), ?_⟩
    refine ⟨_, rfl, (by show 2 ≤ sizeLine; decide), fun tp ntp => ?_⟩
    have s1 : Same H (upd H tp (HO.tup [V.ty "tuple", V.ty "list"])) := same_upd ntp
    have e1 : upd H tp (HO.tup [V.ty "tuple", V.ty "list"]) tp = some (HO.tup [V.ty "tuple", V.ty "list"]) := upd_same
    generalize upd H tp (HO.tup [V.ty "tuple", V.ty "list"]) = H1 at s1 e1 ⊢
    have hd1 := hd.mono s1
    have q1 := q H1 s1
    refine ⟨v, tp, _, _, [.type "tuple", .type "list"], _, rfl, e1, .cons (.ty _) (.cons (.ty _) .nil), hd1.ty, kit_seq d, _, rfl, ?_⟩
    cases hs : seqD d with
    | none =>
      refine iteF ?_
      refine ⟨_, rfl, v, d, rfl, hd1, ?_⟩
      have e : (partsD d).isSome = wholeD d := by cases d <;> first | rfl | cases hs
      rw [e] at q1
      exact q1
    | some ds =>
      refine iteT ?_
      have ep : partsD d = pair? ds := by cases d <;> first | (cases hs; rfl) | cases hs
      rw [ep] at q1
      obtain ⟨a, vs, rfl, hsq, hds⟩ := hd1.seq hs
      refine ⟨_, rfl, a, vs, rfl, hsq, rfl, _, rfl, ?_⟩
      by_cases hl : vs.length = 2
      · rw [decide_eq_true (by rw [hl]; rfl)]
        refine iteT ?_
        have hl2 : ds.length = 2 := by rw [← hds.len]; exact hl
        match ds, hl2 with
        | [d0, d1], _ =>
        obtain ⟨x, y, rfl, hx, hy⟩ := dts2 hds
        refine ⟨_, rfl, seq_at hsq (at_of (j := 0) rfl rfl) ?_⟩
        refine ⟨x, d0, rfl, hx, _, rfl, ?_⟩
        cases h0 : wholeD d0 with
        | false =>
          refine iteF ?_
          have e : pair? [d0, d1] = none := by cases d0 <;> first | rfl | (cases h0)
          rw [e] at q1
          exact q1
        | true =>
          refine iteT ?_
          refine ⟨_, rfl, seq_at hsq (at_of (j := 1) rfl rfl) ?_⟩
          refine ⟨y, d1, rfl, hy, _, rfl, ?_⟩
          cases h1 : wholeD d1 with
          | false =>
            refine iteF ?_
            have e : pair? [d0, d1] = none := by cases d0 <;> cases d1 <;> first | rfl | (cases h1) | (cases h0)
            rw [e] at q1
            exact q1
          | true =>
            refine iteT ?_
            obtain ⟨i, rfl⟩ : ∃ i, d0 = .int i := by cases d0 <;> first | exact ⟨_, rfl⟩ | cases h0
            obtain ⟨j, rfl⟩ : ∃ j, d1 = .int j := by cases d1 <;> first | exact ⟨_, rfl⟩ | cases h1
            cases hy
            refine ⟨_, rfl, seq_at hsq (at_of (j := 1) rfl rfl) ?_⟩
            refine ⟨_, _, rfl, rfl, ?_⟩
            have e : (pair? [PyData.int i, PyData.int j]).isSome = decide (0 < j) := by
              show (if 0 < j then some (i, j) else none).isSome = decide (0 < j)
              by_cases hj : 0 < j
              · rw [if_pos hj, decide_eq_true hj]; rfl
              · rw [if_neg hj, decide_eq_false hj]; rfl
            rw [e] at q1
            exact q1
      · rw [decide_eq_false (fun z => hl (by have z2 := V.int.inj z; omega))]
        refine iteF ?_
        have e : pair? ds = none := by
          cases hp : pair? ds with
          | none => rfl
          | some tb =>
            obtain ⟨t, b⟩ := tb
            have z := (pair_pos hp).1
            rw [hds.len, z] at hl
            exact absurd rfl hl
        rw [e] at q1
        exact q1
theorem scLowest : FnScope ["top", "bottom", "shared"] ["top", "bottom"] (defScope sLowest) := ⟨rfl, rfl, rfl, by decide +kernel, rfl, by decide +kernel, by decide +kernel⟩
theorem log_of {z : Int} {k : Nat} (hk : 0 < k) (h : z.natAbs < 2 ^ k) : z.natAbs.log2 < k := PySem.Flt.log2_lt_of hk h
theorem sg_cdiv {t b x : Int} (h : b ≠ 0) (hb : b.natAbs < 2 ^ big) : CDivZ x (sg t b) :=
  ⟨sg_ne h, Nat.lt_trans (log_of (k := big) (by decide) (Nat.lt_of_le_of_lt (sg_size h) hb)) (by decide)⟩
theorem ok_lowest {f : Addr} {fd : FuncData} (F : Fun K "lowest" "lowest" sLowest f fd) (T : Bk mg) : FnOk P w K mg base CX0 1 f fd ["top", "bottom"] spLow := by
  refine F.ok scLowest (fun vs H Q E h => ?_) (fun cdv A outer s H vs Q E hr h => ?_)
  · obtain ⟨t, b, rfl, _⟩ := h
    rfl
  · obtain ⟨t, b, rfl, hb, hz, q⟩ := h
    refine ⟨_, (pss_cons (ps_set (i := 2) scLowest.nd rfl (Or.inl rfl) (pe_callBfun cr_gcd (by rfl) T.gcd (pa_cons (pv 0) (pa_cons (pv 1) pa_nil))))
      (C8.pss_cut (ps_if (pt_cmpR op_lt (pv 1) pe_int (nomark _)) (pss_one (ps_set (i := 2) scLowest.nd rfl (Or.inl rfl) (pe_un un_neg (pv 2)))) pss_nil)
      (pss_one (ps_ret (pe_tup (pa_cons (pe_op op_fdivZ (pv 0) (pv 2)) (pa_cons (pe_op op_fdivZ (pv 1) (pv 2)) pa_nil))))))), ?_⟩
    refine ⟨_, rfl, _, rfl, t, b, rfl, fun σ H2 => H2 = H ∧ σ = [some (.int t), some (.int b), some (.int (sg t b))], ?_, ?_⟩
    · refine ⟨_, rfl, _, _, rfl, rfl, _, rfl, ?_⟩
      refine ite2 (fun hlt => ?_) (fun hlt => ?_)
      · have h2 : b < 0 := of_decide_eq_true hlt
        refine ⟨_, rfl, _, rfl, rfl, ?_⟩
        unfold sg
        rw [if_pos h2]
        rfl
      · have h2 : ¬ b < 0 := fun z => hlt (decide_eq_true z)
        refine ⟨rfl, ?_⟩
        unfold sg
        rw [if_neg h2]
        rfl
    · rintro σ H2 ⟨rfl, rfl⟩
      refine ⟨_, rfl, _, rfl, _, _, rfl, rfl, sg_cdiv hb hz, _, rfl, _, rfl, _, _, rfl, rfl, sg_cdiv hb hz, (by show 2 ≤ sizeLine; decide), fun p np => ?_⟩
      exact q p _ (same_upd np) np upd_same
theorem scParts : FnScope ["value", "what"] ["value", "what"] (defScope sParts) := ⟨rfl, rfl, rfl, by decide +kernel, rfl, by decide +kernel, by decide +kernel⟩
theorem ok_parts {f : Addr} {fd : FuncData} (F : Fun K "parts_of" "parts_of" sParts f fd) (T : Bk mg) (Gr : Df P w K mg base "is_ratio" 2 ["value"] (spIsRatio K)) (N : Ex P w K mg base "BadNumber" CN ["what", "number"]) :
    FnOk P w K mg base (L2.CX P w) 3 f fd ["value", "what"] (spParts K CN) := by
  refine F.okX scParts (fun vs H Q E h => ?_) (fun cdv A outer s H vs Q E hr h => ?_)
  · obtain ⟨v, wv, d, rfl, _⟩ := h
    rfl
  · obtain ⟨v, wv, d, rfl, hd, q, e⟩ := h
    refine ⟨_, (pss_cons (ps_if (pt_not (pt_val (pe_call Gr.ok hr rfl Gr.m Gr.kp Gr.b .nil pass0 (pa_cons (pv 0) pa_nil))))
        (pss_one (ps_raise rfl (takes_of rfl rfl rfl rfl) (pmk_oex N.ox N.iC N.tI N.ok hr N.b .nil pass0 (by rfl) N.m (pa_cons (pv 1) (pa_cons (pv 0) pa_nil)))))
        pss_nil)
      (pss_cons (ps_if (pt_val (pe_callB call_isi (by rfl) T.isinstance (by decide +kernel) (pa_cons (pv 0) (pa_cons (pe_bltn (v := V.ty "int") (by rfl) T.int (by decide +kernel) rfl) pa_nil))))
        (pss_one (ps_ret (pe_tup (pa_cons (pv 0) (pa_cons pe_int pa_nil)))))
        pss_nil)
      (pss_one (ps_ret (pe_tup (pa_cons (pe_ix ix_seq (pv 0) pe_int (fun _ _ => rfl)) (pa_cons (pe_ix ix_seq (pv 0) pe_int (fun _ _ => rfl)) pa_nil))))))), ?_⟩
    refine ⟨_, rfl, v, d, rfl, hd, fun H1 s1 => ⟨_, rfl, ?_⟩⟩
    have hd1 := hd.mono s1
    cases hp : partsD d with
    | none =>
      refine iteT ?_
      refine ⟨_, rfl, _, rfl, (by show 2 ≤ 1000; decide), ?_⟩
      exact raise_end rfl fun dd H' s2 n e2 => (e hp).same s1 dd H' s2 n e2
    | some tb =>
      obtain ⟨t, b⟩ := tb
      refine iteF ?_
      refine ⟨_, rfl, v, .ty "int", _, .type "int", _, rfl, .ty _, hd1.ty, kit_int d, _, rfl, ?_⟩
      cases hs : seqD d with
      | none =>
        obtain ⟨i, rfl⟩ : ∃ i, d = .int i := by cases d <;> first | exact ⟨_, rfl⟩ | cases hp | cases hs
        cases hp
        cases hd1
        refine iteT ?_
        refine ⟨_, rfl, (by show 2 ≤ sizeLine; decide), fun p np => ?_⟩
        exact q _ _ rfl p _ (s1.trans (same_upd np)) upd_same
      | some ds =>
        have hi : intD d = false := by cases d <;> first | rfl | cases hs
        rw [hi]
        refine iteF ?_
        have ep : partsD d = pair? ds := by cases d <;> first | (cases hs; rfl) | cases hs
        have hp2 := hp
        rw [ep] at hp2
        obtain ⟨rfl, hb⟩ := pair_pos hp2
        obtain ⟨a, vs, rfl, hsq, hds⟩ := hd1.seq hs
        obtain ⟨x, y, rfl, hx, hy⟩ := dts2 hds
        cases hx
        cases hy
        refine ⟨_, rfl, seq_at hsq (at_of (j := 0) rfl rfl) ?_⟩
        refine ⟨_, rfl, seq_at hsq (at_of (j := 1) rfl rfl) ?_⟩
        refine ⟨(by show 2 ≤ sizeLine; decide), fun p np => ?_⟩
        exact q _ _ hp p _ (s1.trans (same_upd np)) upd_same
theorem scTold : FnScope ["value", "what", "top", "bottom"] ["value", "what"] (defScope sTold) := ⟨rfl, rfl, rfl, by decide +kernel, rfl, by decide +kernel, by decide +kernel⟩
theorem ok_told {f : Addr} {fd : FuncData} (F : Fun K "told" "told" sTold f fd) (Gp : Dx P w K mg base "parts_of" 3 ["value", "what"] (spParts K CN)) (Gl : Df P w K mg base "lowest" 1 ["top", "bottom"] spLow) :
    FnOk P w K mg base (L2.CX P w) 4 f fd ["value", "what"] (spTold K CN) := by
  refine F.okX scTold (fun vs H Q E h => ?_) (fun cdv A outer s H vs Q E hr h => ?_)
  · obtain ⟨v, wv, d, rfl, _⟩ := h
    rfl
  · obtain ⟨v, wv, d, rfl, hd, q, e⟩ := h
    refine ⟨_, (pss_cons (ps_asg (pe_call Gp.ok hr rfl Gp.m Gp.kp Gp.b .nil (E := E) (passes_call (takes_of rfl rfl rfl rfl) (fun _ _ _ _ h => h)) (pa_cons (pv 0) (pa_cons (pv 1) pa_nil))) (pg_tup (by rfl) (pgs_cons (pg_name (i := 2) scTold.nd rfl (Or.inl rfl)) (pgs_cons (pg_name (i := 3) scTold.nd rfl (Or.inl rfl)) pgs_nil))))
      (pss_one (ps_ret (pe_call Gl.ok (hr.mono (by decide)) rfl Gl.m Gl.kp Gl.b .nil pass0 (pa_cons (pv 2) (pa_cons (pv 3) pa_nil)))))), ?_⟩
    refine ⟨_, rfl, _, rfl, v, wv, d, rfl, hd, fun t b hp p H1 s1 e1 => ?_, e⟩
    obtain ⟨hz, q⟩ := q t b hp
    have hb := parts_pos hp
    refine ⟨p, _, rfl, SqT.of e1, rfl, _, _, rfl, _, _, rfl, rfl, ?_⟩
    refine ⟨_, rfl, _, rfl, t, b, rfl, by omega, hz, fun p2 H2 s2 n2 e2 => ?_⟩
    exact q p2 H2 (s1.trans s2) e2
end

end Vf

set_option maxRecDepth 100000
set_option maxHeartbeats 8000000
namespace Vf
open PySem PySem.Spec PyProof.Rows L2
/-! ### two ratios -/
/-- below 2 ^ 1900 in size -/
def Sz (z : Int) : Prop := z.natAbs < 2 ^ 1900
theorem sz_mulW {x y : Int} (h1 : Sz x) (h2 : Sz y) : CMulW x y := wide_mul h1 h2 (by decide) (by decide) (by decide)
theorem sz_mul {x y : Int} (h1 : Sz x) (h2 : Sz y) : (x * y).natAbs < 2 ^ 3800 := wide_lt h1 h2
/-- what a def of two ratios promises: of the right ones ok, of the first wrong one the error -/
def spTwo (K : PySem.W.Frag) (CN : Addr) (ok : V → Int → Int → Int → Int → Hp → VK → XK → Prop) : Sp := fun vs H Q E => ∃ (v u : V) (d e : PyData), vs = [v, u] ∧ Dt K H v d ∧ Dt K H u e ∧
  (∀ t b x c, partsD d = some (t, b) → partsD e = some (x, c) → Sz t ∧ Sz b ∧ Sz x ∧ Sz c ∧ ok u t b x c H Q E) ∧
  (partsD d = none → RaisesN CN H (.str "ratio") v E) ∧ ((partsD d).isSome = true → partsD e = none → RaisesN CN H (.str "ratio") u E)
def okLow (g : Int → Int → Int → Int → Int × Int) : V → Int → Int → Int → Int → Hp → VK → XK → Prop := fun _ t b x c H Q _ =>
  ∀ (p : Addr) (H' : Hp), Same H H' → H' p = some (.tup [.int (low (g t b x c).1 (g t b x c).2).1, .int (low (g t b x c).1 (g t b x c).2).2]) → Q (.ref p) H'
def gPlus (t b x c : Int) : Int × Int := (t * c + x * b, b * c)
def gMinus (t b x c : Int) : Int × Int := (t * c - x * b, b * c)
def gTimes (t b x c : Int) : Int × Int := (t * x, b * c)
def gShare (t b x c : Int) : Int × Int := (t * c, b * x)
def okShare (CN : Addr) : V → Int → Int → Int → Int → Hp → VK → XK → Prop := fun u t b x c H Q E => (x = 0 → RaisesN CN H (.str "divisor") u E) ∧ (x ≠ 0 → okLow gShare u t b x c H Q E)
def okLower : V → Int → Int → Int → Int → Hp → VK → XK → Prop := fun _ t b x c H Q _ => ∀ H', Same H H' → Q (.bl (decide (t * c < x * b))) H'
section
variable {P : Program} {w : World} {K : PySem.W.Frag} {mg : Str → Option Value} {base : Heap} {CN : Addr}
abbrev sPlus : Stmt := topS 21
theorem scPlus : FnScope ["one", "other", "top", "bottom", "other_top", "other_bottom"] ["one", "other"] (defScope sPlus) := ⟨rfl, rfl, rfl, by decide +kernel, rfl, by decide +kernel, by decide +kernel⟩
theorem ok_plus {f : Addr} {fd : FuncData} (F : Fun K "plus" "plus" sPlus f fd) (Gp : Dx P w K mg base "parts_of" 3 ["value", "what"] (spParts K CN)) (Gl : Df P w K mg base "lowest" 1 ["top", "bottom"] spLow) (N : Ex P w K mg base "BadNumber" CN ["what", "number"]) :
    FnOk P w K mg base (L2.CX P w) 4 f fd ["one", "other"] (spTwo K CN (okLow gPlus)) := by
  refine F.okX scPlus (fun vs H Q E h => ?_) (fun cdv A outer s H vs Q E hr h => ?_)
  · obtain ⟨v, u, d, e, rfl, _⟩ := h
    rfl
  · obtain ⟨v, u, d, e, rfl, hd, he', q, r1, r2⟩ := h
    refine ⟨_, (pss_cons (ps_asg (pe_call Gp.ok hr rfl Gp.m Gp.kp Gp.b .nil (E := E) (passes_call (takes_of rfl rfl rfl rfl) (fun _ _ _ _ h => h)) (pa_cons (pv 0) (pa_cons pe_str pa_nil))) (pg_tup (by rfl) (pgs_cons (pg_name (i := 2) scPlus.nd rfl (Or.inl rfl)) (pgs_cons (pg_name (i := 3) scPlus.nd rfl (Or.inl rfl)) pgs_nil))))
      (pss_cons (ps_asg (pe_call Gp.ok hr rfl Gp.m Gp.kp Gp.b .nil (E := E) (passes_call (takes_of rfl rfl rfl rfl) (fun _ _ _ _ h => h)) (pa_cons (pv 1) (pa_cons pe_str pa_nil))) (pg_tup (by rfl) (pgs_cons (pg_name (i := 4) scPlus.nd rfl (Or.inl rfl)) (pgs_cons (pg_name (i := 5) scPlus.nd rfl (Or.inl rfl)) pgs_nil))))
      (pss_one (ps_ret (pe_call Gl.ok (hr.mono (by decide)) rfl Gl.m Gl.kp Gl.b .nil pass0 (pa_cons (pe_op op_add (pe_op op_mulW (pv 2) (pv 5)) (pe_op op_mulW (pv 4) (pv 3))) (pa_cons (pe_op op_mulW (pv 3) (pv 5)) pa_nil))))))), ?_⟩
    refine ⟨_, rfl, v, .str "ratio", d, rfl, hd, fun t b hp p H1 s1 e1 => ?_, r1⟩
    have r2 := r2 (by rw [hp]; rfl)
    have q := fun x c he => q t b x c hp he
    refine ⟨p, _, rfl, SqT.of e1, rfl, _, _, rfl, _, _, rfl, rfl, ?_⟩
    refine ⟨_, rfl, u, .str "ratio", e, rfl, he'.mono s1, fun x c he p2 H2 s2 e2 => ?_, fun z => (r2 z).same s1⟩
    refine ⟨p2, _, rfl, SqT.of e2, rfl, _, _, rfl, _, _, rfl, rfl, ?_⟩
    obtain ⟨ht, hb, hx, hc, q⟩ := q x c he
    have s12 := s1.trans s2
    refine ⟨_, rfl, _, rfl, _, _, rfl, rfl, sz_mulW ht hc, _, rfl, _, rfl, _, _, rfl, rfl, sz_mulW hx hb, _, _, rfl, rfl, _, rfl, _, rfl, _, _, rfl, rfl, sz_mulW hb hc, _, _, rfl, by have := parts_pos hp; have := parts_pos he; exact Int.ne_of_gt (Int.mul_pos ‹_› ‹_›), Nat.lt_trans (sz_mul hb hc) (by decide +kernel), fun p H4 s4 n4 e4 => ?_⟩
    exact q p H4 (s12.trans s4) e4
abbrev sTimes : Stmt := topS 22
theorem scTimes : FnScope ["one", "other", "top", "bottom", "other_top", "other_bottom"] ["one", "other"] (defScope sTimes) := ⟨rfl, rfl, rfl, by decide +kernel, rfl, by decide +kernel, by decide +kernel⟩
theorem ok_times {f : Addr} {fd : FuncData} (F : Fun K "times" "times" sTimes f fd) (Gp : Dx P w K mg base "parts_of" 3 ["value", "what"] (spParts K CN)) (Gl : Df P w K mg base "lowest" 1 ["top", "bottom"] spLow) (N : Ex P w K mg base "BadNumber" CN ["what", "number"]) :
    FnOk P w K mg base (L2.CX P w) 4 f fd ["one", "other"] (spTwo K CN (okLow gTimes)) := by
  refine F.okX scTimes (fun vs H Q E h => ?_) (fun cdv A outer s H vs Q E hr h => ?_)
  · obtain ⟨v, u, d, e, rfl, _⟩ := h
    rfl
  · obtain ⟨v, u, d, e, rfl, hd, he', q, r1, r2⟩ := h
    refine ⟨_, (pss_cons (ps_asg (pe_call Gp.ok hr rfl Gp.m Gp.kp Gp.b .nil (E := E) (passes_call (takes_of rfl rfl rfl rfl) (fun _ _ _ _ h => h)) (pa_cons (pv 0) (pa_cons pe_str pa_nil))) (pg_tup (by rfl) (pgs_cons (pg_name (i := 2) scTimes.nd rfl (Or.inl rfl)) (pgs_cons (pg_name (i := 3) scTimes.nd rfl (Or.inl rfl)) pgs_nil))))
      (pss_cons (ps_asg (pe_call Gp.ok hr rfl Gp.m Gp.kp Gp.b .nil (E := E) (passes_call (takes_of rfl rfl rfl rfl) (fun _ _ _ _ h => h)) (pa_cons (pv 1) (pa_cons pe_str pa_nil))) (pg_tup (by rfl) (pgs_cons (pg_name (i := 4) scTimes.nd rfl (Or.inl rfl)) (pgs_cons (pg_name (i := 5) scTimes.nd rfl (Or.inl rfl)) pgs_nil))))
      (pss_one (ps_ret (pe_call Gl.ok (hr.mono (by decide)) rfl Gl.m Gl.kp Gl.b .nil pass0 (pa_cons (pe_op op_mulW (pv 2) (pv 4)) (pa_cons (pe_op op_mulW (pv 3) (pv 5)) pa_nil))))))), ?_⟩
    refine ⟨_, rfl, v, .str "ratio", d, rfl, hd, fun t b hp p H1 s1 e1 => ?_, r1⟩
    have r2 := r2 (by rw [hp]; rfl)
    have q := fun x c he => q t b x c hp he
    refine ⟨p, _, rfl, SqT.of e1, rfl, _, _, rfl, _, _, rfl, rfl, ?_⟩
    refine ⟨_, rfl, u, .str "ratio", e, rfl, he'.mono s1, fun x c he p2 H2 s2 e2 => ?_, fun z => (r2 z).same s1⟩
    refine ⟨p2, _, rfl, SqT.of e2, rfl, _, _, rfl, _, _, rfl, rfl, ?_⟩
    obtain ⟨ht, hb, hx, hc, q⟩ := q x c he
    have s12 := s1.trans s2
    refine ⟨_, rfl, _, rfl, _, _, rfl, rfl, sz_mulW ht hx, _, rfl, _, rfl, _, _, rfl, rfl, sz_mulW hb hc, _, _, rfl, by have := parts_pos hp; have := parts_pos he; exact Int.ne_of_gt (Int.mul_pos ‹_› ‹_›), Nat.lt_trans (sz_mul hb hc) (by decide +kernel), fun p H4 s4 n4 e4 => ?_⟩
    exact q p H4 (s12.trans s4) e4
end

end Vf

set_option maxRecDepth 100000
set_option maxHeartbeats 8000000
namespace Vf
open PySem PySem.Spec PyProof.Rows L2
/-! ### the law's why: a lambda called in a try -/
/-- the classes that it names -/
structure Wc (K : PySem.W.Frag) (mg : Str → Option Value) (C : Nat → Addr) : Prop where
  m0 : mg "BadText" = some (.ref (C 0))
  m1 : mg "BadNumber" = some (.ref (C 1))
  m2 : mg "BadRow" = some (.ref (C 2))
  m3 : mg "TooMany" = some (.ref (C 3))
  m4 : mg "Unlike" = some (.ref (C 4))
  m5 : mg "TooWide" = some (.ref (C 5))
  m6 : mg "Pole" = some (.ref (C 6))
  xf : ∀ k, k < 7 → XfC K (C k)
  ex : ∀ k j, k < 7 → j < 7 → PySem.W.exmOne K (.ref (C k)) (.ref (C j)) = some (decide (k = j))
  n0 : PySem.W.findIn K (.ref (C 0)) "column" = some none
  n1 : PySem.W.findIn K (.ref (C 1)) "what" = some none
  n1b : PySem.W.findIn K (.ref (C 1)) "number" = some none
  n2 : PySem.W.findIn K (.ref (C 2)) "row" = some none
  n3 : PySem.W.findIn K (.ref (C 3)) "what" = some none
  n3b : PySem.W.findIn K (.ref (C 3)) "limit" = some none
  n4 : PySem.W.findIn K (.ref (C 4)) "what" = some none
  repr : mg "repr" = none
/-- repr of data, by the units alone (in a suite too) -/
theorem call_reprU {X : Cx} (K : PySem.W.Frag) (hg : X.A.guards = some []) (hu : X.A.units + 150 < cLine) (m : M1 X.base) (hK : X.K = K := by rfl) :
    CallR X (.builtin "repr") (fun xs H Q => ∃ v d, xs = [v] ∧ Dt K H v d ∧ small d ∧ Q (.str d.shown) H) := by
  subst hK
  intro pins s σ H xs us Q I r h
  obtain ⟨v, d, rfl, hd, ⟨hs, hz, hl⟩, q⟩ := h
  obtain ⟨u, rfl, ru⟩ := vals1 r
  obtain ⟨as, rd, na⟩ := Dt.reads I m hd ru
  have hu2 : X.A.units + (d.depth + 1) < cLine := by omega
  cases rd with
  | none => exact PySem.P.repr_of_none ⟨.str _, H, I.tok _, ⟨_, rfl⟩, by simpa only [PyData.shown] using q⟩
  | bool b => exact PySem.P.repr_of_bool ⟨.str _, H, I.tok _, ⟨_, rfl⟩, by simpa only [PyData.shown] using q⟩
  | int i t => exact PySem.P.repr_of_int (by simpa [PyData.showable] using hs) ⟨.str _, H, I.tok _, ⟨_, rfl⟩, by simpa only [PyData.shown] using q⟩
  | str x t => exact PySem.P.repr_of_str ⟨.str _, H, I.tok _, ⟨_, rfl⟩, by simpa only [PyData.shown] using q⟩ (by simpa only [PyData.shown] using hl)
  | list a1 a2 a3 a4 => exact repr_of_reads' (.list a1 a2 a3 a4) hs (fun _ => na) hg hu2 (fun _ _ e => e) (fun h' u tk hk => ⟨.str _, H, I.kept hk, ⟨_, rfl⟩, q⟩) hl
  | tuple a1 a2 a3 a4 => exact repr_of_reads' (.tuple a1 a2 a3 a4) hs (fun _ => na) hg hu2 (fun _ _ e => e) (fun h' u tk hk => ⟨.str _, H, I.kept hk, ⟨_, rfl⟩, q⟩) hl
  | dict a1 a2 a3 a4 a5 => exact repr_of_reads' (.dict a1 a2 a3 a4 a5) hs (fun _ => na) hg hu2 (fun _ _ e => e) (fun h' u tk hk => ⟨.str _, H, I.kept hk, ⟨_, rfl⟩, q⟩) hl
/-- what is taken, where the slots are as many as the names -/
theorem takes_len {X : Cx} {W : WX} (tk : Takes X W) : Takes X (fun cls d σ H => σ.length = X.N.length → W cls d σ H) := fun u s' z => by
  obtain ⟨a, B, sI, pins, σ, H, cls, d, e, J, nb, up, sky, na, os, ag, w⟩ := z
  exact tk u s' ⟨a, B, sI, pins, σ, H, cls, d, e, J, nb, up, sky, na, os, ag, w J.len⟩
/-- the tuple that is told of an error -/
def WhyE (K : PySem.W.Frag) (C : Nat → Addr) (Q : VK) : XK := fun cls d H =>
  (cls = .ref (C 1) ∧ ∃ (dd : Addr) (wv v : V) (dv : PyData), d = some dd ∧ H dd = some (.xd (fl ["what", "number"] [wv, v])) ∧ Dt K H v dv ∧ small dv ∧ ∀ (t : Addr) (H' : Hp), Same H H' → H' t = some (.tup [.str "number", wv, .str dv.shown]) → Q (.ref t) H') ∨
  (cls = .ref (C 2) ∧ ∃ (dd : Addr) (v : V) (dv : PyData), d = some dd ∧ H dd = some (.xd (fl ["row"] [v])) ∧ Dt K H v dv ∧ small dv ∧ ∀ (t : Addr) (H' : Hp), Same H H' → H' t = some (.tup [.str "row", .str dv.shown]) → Q (.ref t) H') ∨
  (cls = .ref (C 0) ∧ ∃ (dd : Addr) (v : V), d = some dd ∧ H dd = some (.xd (fl ["column"] [v])) ∧ ∀ (t : Addr) (H' : Hp), Same H H' → H' t = some (.tup [.str "text", v]) → Q (.ref t) H')
def TWhy (K : PySem.W.Frag) (C : Nat → Addr) : (XK → Hp → VK → Prop) → Hp → VK → Prop := fun tl H Q => tl (WhyE K C Q) H (fun _ H' => Q .non H')
abbrev sWhy : Stmt := topS 48
theorem scWhy : FnScope ["_law_call", "e"] ["_law_call"] (defScope sWhy) := ⟨rfl, rfl, rfl, by decide +kernel, rfl, by decide +kernel, by decide +kernel⟩
theorem why_gives {X : Cx} {q : Str} {g : Addr} {cdg : Value} {C : Nat → Addr} (T : Wc X.K X.mg C) (hgu : X.A.guards = some []) (hu : X.A.units + 160 < cLine) (hm1 : M1 X.base) :
    LamX.GivesTo X ["_law_call", "e"] "_law_why" (defScope sWhy) g cdg (defBody sWhy) "_law_call" q (TWhy X.K C) := by
  intro f c' s H Q tl act hc h
  refine ⟨_, pss_cons (ps_try_each (X := (cxOf C8.CX0 X.prog X.w X.K X.mg X.base ["_law_call", "e"] "_law_why" (defScope sWhy) g cdg X.A X.stack s H C8.E0).nox) (i := 1)
      (l := [(.ref (C 0), _), (.ref (C 1), _), (.ref (C 2), _), (.ref (C 3), _), (.ref (C 4), _), (.ref (C 5), _), (.ref (C 6), _)])
      (tb := fun W D σ H => ∃ Ech : XK, (∀ cls d σ' H', Ech cls d H' → σ'.length = 2 → W cls d σ' H') ∧ σ[0]? = some (some (.ref f)) ∧ H c' = some (LamX.CodeO c' q) ∧ tl Ech H fun _ H' => D.nx σ H')
      rfl rfl scWhy.nd LamX.takes0 (fun W pn xe tk _ => ?_)
      (.cons ⟨rfl, by decide, .inl T.m0⟩ rfl rfl (fun a oe cls d pn hz hf => pss_one (ps_ret (pe_tup (pa_cons pe_str (pa_cons (pe_xf (T.xf 0 (by decide)) T.n0 hz hf (pv 1)) pa_nil)))))
      (.cons ⟨rfl, by decide, .inl T.m1⟩ rfl rfl (fun a oe cls d pn hz hf => pss_one (ps_ret (pe_tup (pa_cons pe_str (pa_cons (pe_xf (T.xf 1 (by decide)) T.n1 hz hf (pv 1)) (pa_cons (pe_callB (id := "repr") (call_reprU X.K (X := (cxOf C8.CX0 X.prog X.w X.K X.mg X.base ["_law_call", "e"] "_law_why" (defScope sWhy) g cdg X.A X.stack s H C8.E0).nox.suite a ((a, oe) :: pn)) (by exact hgu) (by show X.A.units + 3 + 150 < cLine; omega) (by exact hm1)) (by rfl) T.repr (by decide +kernel) (pa_cons (pe_xf (T.xf 1 (by decide)) T.n1b hz hf (pv 1)) pa_nil)) pa_nil))))))
      (.cons ⟨rfl, by decide, .inl T.m2⟩ rfl rfl (fun a oe cls d pn hz hf => pss_one (ps_ret (pe_tup (pa_cons pe_str (pa_cons (pe_callB (id := "repr") (call_reprU X.K (X := (cxOf C8.CX0 X.prog X.w X.K X.mg X.base ["_law_call", "e"] "_law_why" (defScope sWhy) g cdg X.A X.stack s H C8.E0).nox.suite a ((a, oe) :: pn)) (by exact hgu) (by show X.A.units + 3 + 150 < cLine; omega) (by exact hm1)) (by rfl) T.repr (by decide +kernel) (pa_cons (pe_xf (T.xf 2 (by decide)) T.n2 hz hf (pv 1)) pa_nil)) pa_nil)))))
      (.cons ⟨rfl, by decide, .inl T.m3⟩ rfl rfl (fun a oe cls d pn hz hf => pss_one (ps_ret (pe_tup (pa_cons pe_str (pa_cons (pe_xf (T.xf 3 (by decide)) T.n3 hz hf (pv 1)) (pa_cons (pe_xf (T.xf 3 (by decide)) T.n3b hz hf (pv 1)) pa_nil))))))
      (.cons ⟨rfl, by decide, .inl T.m4⟩ rfl rfl (fun a oe cls d pn hz hf => pss_one (ps_ret (pe_tup (pa_cons pe_str (pa_cons (pe_xf (T.xf 4 (by decide)) T.n4 hz hf (pv 1)) pa_nil)))))
      (.cons ⟨rfl, by decide, .inl T.m5⟩ rfl rfl (fun a oe cls d pn hz hf => pss_one (ps_ret (pe_tup (pa_cons pe_str pa_nil))))
      (.cons ⟨rfl, by decide, .inl T.m6⟩ rfl rfl (fun a oe cls d pn hz hf => pss_one (ps_ret (pe_tup (pa_cons pe_str pa_nil)))) .nil))))))))
    (pss_one (ps_ret pe_non)), ?_⟩
  · refine ⟨fun pins s' σ H' D I h' => ?_⟩
    obtain ⟨Ech, hW, h1, h2, h3⟩ := h'
    exact (pss_one (ps_expr (act _ pn xe Ech _ _ (takes_len tk) (fun cls d σ' H' z len => hW cls d σ' H' z len)))).run pins s' σ H' D I ⟨h1, h2, h3⟩
  · refine ⟨WhyE X.K C Q, fun cls d σ' H' z len => ?_, rfl, hc, h⟩
    obtain ⟨x0, x1, rfl⟩ : ∃ x0 x1, σ' = [x0, x1] := by
      match σ', len with
      | [x0, x1], _ => exact ⟨x0, x1, rfl⟩
    rcases z with ⟨rfl, dd, wv, v, dv, rfl, hdd, hv, sm, k⟩ | ⟨rfl, dd, v, dv, rfl, hdd, hv, sm, k⟩ | ⟨rfl, dd, v, rfl, hdd, k⟩
    · refine ⟨false, T.ex 1 0 (by decide) (by decide), (fun z => nomatch z), fun _ => ⟨true, T.ex 1 1 (by decide) (by decide), fun _ a na => ?_, fun z => nomatch z⟩⟩
      refine ⟨.ref a, rfl, rfl, rfl, dd, _, wv, rfl, hdd, (by kernel_rfl), .ref a, rfl, rfl, rfl, dd, _, v, rfl, hdd, (by kernel_rfl), v, dv, rfl, hv, sm, (by show 3 ≤ sizeLine; decide), fun t nt => ?_⟩
      exact k t _ (same_upd nt) upd_same
    · refine ⟨false, T.ex 2 0 (by decide) (by decide), (fun z => nomatch z), fun _ => ⟨false, T.ex 2 1 (by decide) (by decide), (fun z => nomatch z), fun _ => ⟨true, T.ex 2 2 (by decide) (by decide), fun _ a na => ?_, fun z => nomatch z⟩⟩⟩
      refine ⟨.ref a, rfl, rfl, rfl, dd, _, v, rfl, hdd, (by kernel_rfl), v, dv, rfl, hv, sm, (by show 2 ≤ sizeLine; decide), fun t nt => ?_⟩
      exact k t _ (same_upd nt) upd_same
    · refine ⟨true, T.ex 0 0 (by decide) (by decide), fun _ a na => ?_, fun z => nomatch z⟩
      refine ⟨.ref a, rfl, rfl, rfl, dd, _, v, rfl, hdd, (by kernel_rfl), (by show 2 ≤ sizeLine; decide), fun t nt => ?_⟩
      exact k t _ (same_upd nt) upd_same
/-! ### what stands while lambdas are made -/
open LamX (ExtN Tabs TabS)
theorem sqL_n {K : PySem.W.Frag} {H H' : Hp} {a : Addr} {xs : List V} (e : ExtN H H') (h : SqL K H a xs) : SqL K H' a xs := by
  rcases h with (h | ⟨o, h⟩) | h
  · exact Or.inl (Or.inl (e a _ h (fun ps z => by cases z)))
  · exact Or.inl (Or.inr ⟨o, e a _ h (fun ps z => by cases z)⟩)
  · exact Or.inr h
theorem sqT_n {K : PySem.W.Frag} {H H' : Hp} {a : Addr} {xs : List V} (e : ExtN H H') (h : SqT K H a xs) : SqT K H' a xs := by
  rcases h with (h | ⟨o, h⟩) | h
  · exact Or.inl (Or.inl (e a _ h (fun ps z => by cases z)))
  · exact Or.inl (Or.inr ⟨o, e a _ h (fun ps z => by cases z)⟩)
  · exact Or.inr h
mutual
theorem Dt.n {K : PySem.W.Frag} {H H' : Hp} (e : ExtN H H') : ∀ {v : V} {d : PyData}, Dt K H v d → Dt K H' v d
  | _, _, .non => .non
  | _, _, .bl b => .bl b
  | _, _, .int i => .int i
  | _, _, .str x => .str x
  | _, _, .lst h1 h2 => .lst (sqL_n e h1) (Dts.n e h2)
  | _, _, .tup h1 h2 => .tup (sqT_n e h1) (Dts.n e h2)
  | _, _, .dct h1 h2 => .dct (e _ _ h1 (fun ps z => by cases z)) (Dts.n e h2)
theorem Dts.n {K : PySem.W.Frag} {H H' : Hp} (e : ExtN H H') : ∀ {vs : List V} {ds : List PyData}, Dts K H vs ds → Dts K H' vs ds
  | _, _, .nil => .nil
  | _, _, .cons h1 h2 => .cons (Dt.n e h1) (Dts.n e h2)
end
/-- all but p and the tables stands as it stood -/
def Kn (p : Addr) (H H' : Hp) : Prop := ∀ b o, b ≠ p → H b = some o → (∀ ps, o ≠ .tbl ps) → H' b = some o
theorem Kn.of {p : Addr} {H H' : Hp} (k : Kp p H H') : Kn p H H' := fun b o n e _ => k b o n e
theorem Kn.ext {p : Addr} {H H' : Hp} (k : ExtN H H') : Kn p H H' := fun b o _ e t => k b o e t
theorem Kn.same {p : Addr} {H H' : Hp} (k : Same H H') : Kn p H H' := fun b o _ e _ => k b o e
theorem Kn.trans {p : Addr} {H H1 H2 : Hp} (a : Kn p H H1) (b : Kn p H1 H2) : Kn p H H2 := fun c o n e t => b c o n (a c o n e t) t
theorem Kn.refl {p : Addr} {H : Hp} : Kn p H H := fun _ _ _ e _ => e
theorem Kn.wo {p : Addr} {H H' : Hp} (k : Kn p H H') : ExtN (wo p H) (wo p H') := fun b o e t => by
  unfold Vf.wo at e ⊢
  by_cases h : b = p
  · rw [if_pos h] at e
    cases e
  · rw [if_neg h] at e ⊢
    exact k b o h e t
theorem Pen.n {H H' : Hp} {p l : Addr} {B : Int} (h : Pen H p l B) (e : ExtN H H') : Pen H' p l B := by
  obtain ⟨ns, a, d, c, f, ⟨g1, g2, g3⟩, h2⟩ := h
  exact ⟨ns, a, d, c, f, ⟨e _ _ g1 (fun ps z => by cases z), e _ _ g2 (fun ps z => by cases z), g3⟩, h2⟩
/-- the pen's turns leave the tables -/
theorem tabs_kp {T : List (Addr × Str)} {H H' : Hp} {p l : Addr} {B : Int} (hP : Pen H p l B) (k : Kp p H H') (t : Tabs T H) : Tabs T H' := fun y hy => by
  obtain ⟨ns, a, d, c, f, g1, _⟩ := hP
  obtain ⟨ps, h1, h2, h3⟩ := t y hy
  refine ⟨ps, k _ _ (ne_of h1 g1.1 (by intro z; cases z)) h1, h2, fun pos cv hc => ?_⟩
  obtain ⟨c', e1, e2⟩ := h3 pos cv hc
  exact ⟨c', e1, k _ _ (ne_of e2 g1.1 (by intro z; unfold LamX.CodeO at z; cases z)) e2⟩
/-- a def of several that a slot may hold, called there; it may raise -/
structure HeldX (P : Program) (w : World) (K : PySem.W.Frag) (mg : Str → Option Value) (base : Heap) (k : Nat) (f : Addr) (sp : Sp) : Prop where
  ex : ∃ (fd : FuncData) (ps : List Str), FnOk P w K mg base (L2.CX P w) k f fd ps sp ∧ PySem.W.keepIn K (.ref f) = true ∧ Binds K fd ps []
def tCallF (i : Nat) (S : Addr → Prop) (sp : Sp) (E : XK) (t : TA) : TE := fun σ H Q => ∃ f, σ[i]? = some (some (.ref f)) ∧ S f ∧ t σ H fun vs H1 => sp vs H1 Q E
theorem pe_callF {X : Cx} {S : Addr → Prop} {sp : Sp} {k i : Nat} {E : XK} {x : Str} {p pos : Pos} {e : Expr} {es : List Expr} {t : TA} (A : ∀ f, S f → HeldX X.prog X.w X.K X.mg X.base k f sp) (hr : Room k X.A) (hN : X.N[i]? = some x) (hv : Vis X.env.scope x)
    (hx : Passes (L2.CX X.prog X.w) X E) (ha : PA X (e :: es) t) (hdb : (x == ("__debug__" : Str)) = false := by decide) (hcd : (x == ("__classdict__" : Str)) = false := by decide)
    (he : starEach (e :: es) X.env = (false, eval e X.env) :: starEach es X.env := by rfl) (hpl : (backTo pos (starEach es X.env)).any (·.1) = false := by rfl) : PE X (.Call (.Name x p) (e :: es) [] pos) (tCallF i S sp E t) := by
  refine ⟨fun pins s σ H Q I h => ?_⟩
  obtain ⟨f, hs, hS, ht⟩ := h
  obtain ⟨fd, ps, F, kp, b⟩ := (A f hS).ex
  refine (pe_callL (i := i) (f := f) (dvs := []) (E := E) F hr hN hv kp b .nil hx ha hdb hcd he hpl).run pins s σ H Q I ⟨hs, ?_⟩
  have z : (fun (vs : List V) (H1 : Hp) => sp (vs ++ []) H1 Q E) = fun vs H1 => sp vs H1 Q E := by
    funext vs H1
    rw [List.append_nil]
  rw [z]
  exact ht

end Vf

set_option maxRecDepth 100000
set_option maxHeartbeats 8000000
namespace Vf
open PySem PySem.Spec PyProof.Rows L2
/-! ### the class of polynomials -/
/-- the class, as the written part tells it -/
structure PoC (K : PySem.W.Frag) (mg : Str → Option Value) (CP : Addr) : Prop where
  m : mg "Poly" = some (.ref CP)
  cl : Cls K CP
  nf : NoAttr K CP "numbers"
  ca : PySem.W.findIn K (.ref CP) "__class__" = some (some (.builtin "object.__class__"))
  cn : PySem.W.specialIn K (.builtin "object.__class__") "__get__" = some (some (.builtin "getset_descriptor.__get__"))
  ct : PySem.W.takesIn K (.builtin "object.__class__") = some true
  cm : PySem.W.mroIn K CP (.type "object") = some true
  no : ∀ d : PyData, PySem.W.kitOne K (.type (tyD d)) (.ref CP) = some false
  fs : PySem.W.notFirst K CP (.ref CP) = true
  fd : ∀ d : PyData, PySem.W.notFirst K CP (.type (tyD d)) = true
theorem PoC.io {K : PySem.W.Frag} {mg : Str → Option Value} {CP : Addr} (_ : PoC K mg CP) : PySem.W.kitOne K (.ref CP) (.ref CP) = some true := by
  unfold PySem.W.kitOne
  rw [if_pos (by simp)]
/-- a polynomial with these numbers stands at a -/
def PolyAt (K : PySem.W.Frag) (CP : Addr) (H : Hp) (a : Addr) (rs : List (Int × Int)) : Prop := ∃ dx q as, H a = some (.ins CP dx [("numbers", .ref q)]) ∧ H q = some (.tup (as.map V.ref)) ∧ Tups H as rs
theorem PolyAt.imp {K : PySem.W.Frag} {CP : Addr} {H H' : Hp} {a : Addr} {rs : List (Int × Int)} (h : PolyAt K CP H a rs) (e : ∀ b o, H b = some o → ((∃ fs dx, o = .ins CP dx fs) ∨ ∃ xs, o = .tup xs) → H' b = some o) : PolyAt K CP H' a rs := by
  obtain ⟨dx, q, as, h1, h2, h3⟩ := h
  exact ⟨dx, q, as, e _ _ h1 (.inl ⟨_, _, rfl⟩), e _ _ h2 (.inr ⟨_, rfl⟩), h3.imp fun a p z => e _ _ z (.inr ⟨_, rfl⟩)⟩
theorem PolyAt.same {K : PySem.W.Frag} {CP : Addr} {H H' : Hp} {a : Addr} {rs : List (Int × Int)} (h : PolyAt K CP H a rs) (s : Same H H') : PolyAt K CP H' a rs := h.imp fun b o e _ => s b o e
theorem PolyAt.n {K : PySem.W.Frag} {CP : Addr} {H H' : Hp} {a : Addr} {rs : List (Int × Int)} (h : PolyAt K CP H a rs) (s : LamX.ExtN H H') : PolyAt K CP H' a rs := h.imp fun b o e t => s b o e (fun ps z => by
  rcases t with ⟨_, _, t⟩ | ⟨_, t⟩ <;> rw [t] at z <;> cases z)
theorem PolyAt.kp {K : PySem.W.Frag} {CP : Addr} {H H' : Hp} {a p l : Addr} {B : Int} {rs : List (Int × Int)} (h : PolyAt K CP H a rs) (hP : Pen H p l B) (s : Kp p H H') : PolyAt K CP H' a rs := by
  obtain ⟨ns, a0, d0, c0, f0, g1, _⟩ := hP
  refine h.imp fun b o e t => s b o (fun z => ?_) e
  rw [z, g1.1] at e
  cases e
  rcases t with ⟨_, _, t⟩ | ⟨_, t⟩ <;> cases t
theorem PolyAt.ty {K : PySem.W.Frag} {mg : Str → Option Value} {CP : Addr} {H : Hp} {a : Addr} {rs : List (Int × Int)} (C : PoC K mg CP) (h : PolyAt K CP H a rs) : TyX K H (.ref a) (.ref CP) := by
  obtain ⟨dx, q, as, h1, _⟩ := h
  exact .base (.ins h1 C.cl C.ca C.cn C.ct C.cm)
/-- a row of ratios, as data -/
def rowD : PyData → Option (List (Int × Int))
  | .list ds => ds.mapM partsD
  | .tuple ds => ds.mapM partsD
  | _ => none
theorem rowD_seq {d : PyData} {ds : List PyData} (h : seqD d = some ds) : rowD d = ds.mapM partsD := by
  cases d <;> first | (cases h; rfl) | cases h
theorem rowD_none {d : PyData} (h : seqD d = none) : rowD d = none := by
  cases d <;> first | rfl | cases h
theorem mapM_some : ∀ {ds : List PyData} {ps : List (Int × Int)}, ds.mapM partsD = some ps → ds.length = ps.length ∧ ∀ (i : Nat) (d : PyData), ds[i]? = some d → ∃ p, ps[i]? = some p ∧ partsD d = some p
  | [], ps, h => by
    rw [List.mapM_nil] at h
    cases h
    exact ⟨rfl, fun i d e => by simp at e⟩
  | d0 :: ds, ps, h => by
    rw [List.mapM_cons] at h
    cases e0 : partsD d0 with
    | none => rw [e0] at h; cases h
    | some p0 =>
      rw [e0] at h
      cases e1 : ds.mapM partsD with
      | none => rw [e1] at h; cases h
      | some ps1 =>
        rw [e1] at h
        cases h
        obtain ⟨h1, h2⟩ := mapM_some e1
        refine ⟨by simp [h1], fun i d e => ?_⟩
        cases i with
        | zero =>
          simp at e
          subst e
          exact ⟨p0, rfl, e0⟩
        | succ i => simpa using h2 i d (by simpa using e)
theorem mapM_all : ∀ ds : List PyData, (ds.map fun d => (partsD d).isSome).all id = (ds.mapM partsD).isSome
  | [] => by rw [List.mapM_nil]; rfl
  | d :: ds => by
    rw [List.mapM_cons, List.map_cons, List.all_cons, mapM_all ds]
    cases partsD d with
    | none => rfl
    | some p =>
      cases ds.mapM partsD <;> rfl
def spIsRow (K : PySem.W.Frag) : Sp := fun vs H Q _ => ∃ (v : V) (d : PyData), vs = [v] ∧ Dt K H v d ∧ (∀ ds, seqD d = some ds → ds.length ≤ 1000) ∧ ∀ H', Same H H' → Q (.bl (rowD d).isSome) H'
/-- an error of BadRow -/
def RaisesR (CR : Addr) (H : Hp) (v : V) (E : XK) : Prop := ∀ (d : Addr) (H' : Hp), Same H H' → H d = none → H' d = some (.xd (fl ["row"] [v])) → E (.ref CR) (some d) H'
theorem RaisesR.same {CR : Addr} {H H1 : Hp} {v : V} {E : XK} (s : Same H H1) (h : RaisesR CR H v E) : RaisesR CR H1 v E := fun d H' s' n e => h d H' (s.trans s') (s.free n) e
/-- the numbers of a row, in lowest terms -/
def lowP (p : Int × Int) : Int × Int := low p.1 p.2
/-- a Poly is made of a value -/
def spPolyI (K : PySem.W.Frag) (CP CR : Addr) : Sp := fun vs H Q E => ∃ (x dx : Addr) (v : V) (d : PyData), vs = [.ref x, v] ∧ H x = some (.ins CP dx []) ∧ Dt K H v d ∧ (∀ ds, seqD d = some ds → ds.length ≤ 1000) ∧
  (∀ ps, rowD d = some ps → (∀ p ∈ ps, p.2.natAbs < 2 ^ big) ∧ ∀ H', Kp x H H' → PolyAt K CP H' x (strip (ps.map lowP)) → Q .non H') ∧ (rowD d = none → RaisesR CR H v E)
/-- what the call Poly(v) comes to -/
theorem poly_made {K : PySem.W.Frag} {CP CR : Addr} {H : Hp} {v : V} {d : PyData} {Qd : Addr → Hp → Prop} {E : XK} (hd : Dt K H v d) (hl : ∀ ds, seqD d = some ds → ds.length ≤ 1000)
    (k : ∀ ps, rowD d = some ps → (∀ p ∈ ps, p.2.natAbs < 2 ^ big) ∧ ∀ (x : Addr) (H' : Hp), Same H H' → H x = none → PolyAt K CP H' x (strip (ps.map lowP)) → Qd x H') (r : rowD d = none → RaisesR CR H v E) :
    ∀ x dx, H x = none → H dx = none → dx ≠ x → spPolyI K CP CR (.ref x :: ([v] ++ [])) (upd (upd H dx (.own x)) x (.ins CP dx [])) (fun w H2 => w = .non ∧ Qd x H2) E := by
  intro x dx nx nd ne
  have s1 : Same H (upd (upd H dx (.own x)) x (.ins CP dx [])) := (same_upd nd).trans (same_upd (by rw [upd_ne (Ne.symm ne)]; exact nx))
  refine ⟨x, dx, v, d, rfl, upd_same, hd.mono s1, hl, fun ps hp => ?_, fun hn => (r hn).same s1⟩
  obtain ⟨k1, k2⟩ := k ps hp
  refine ⟨k1, fun H' kp hP => ⟨rfl, k2 x H' (fun b o e => kp b o (ne_of_none e nx) (s1 _ _ e)) nx hP⟩⟩
section
variable {P : Program} {w : World} {K : PySem.W.Frag} {mg : Str → Option Value} {base : Heap} {CP CR CN : Addr}
abbrev sIsRow : Stmt := topS 17
abbrev sPolyI : Stmt := inClass (topS 35) 0
abbrev sPolyE : Stmt := inClass (topS 35) 1
abbrev sPolyD : Stmt := inClass (topS 35) 9
theorem scIsRow : FnScope ["value", "item"] ["value"] (defScope sIsRow) := ⟨rfl, rfl, rfl, by decide +kernel, rfl, by decide +kernel, by decide +kernel⟩
theorem map_take_snoc {α β : Type} {l : List α} {f : α → β} {i : Nat} {x : α} (h : l[i]? = some x) : (l.take i).map f ++ [f x] = (l.take (i + 1)).map f := by
  rw [List.take_succ, h, List.map_append]
  rfl
theorem ok_is_row {f : Addr} {fd : FuncData} (F : Fun K "is_ratio_row" "is_ratio_row" sIsRow f fd) (T : Bk mg) (hall : mg "all" = none) (Gr : Df P w K mg base "is_ratio" 2 ["value"] (spIsRatio K)) : FnOk P w K mg base CX0 3 f fd ["value"] (spIsRow K) := by
  refine F.ok scIsRow (fun vs H Q E h => ?_) (fun cdv A outer s H vs Q E hr h => ?_)
  · obtain ⟨v, d, rfl, _⟩ := h
    rfl
  · obtain ⟨v, d, rfl, hd, hlen, q⟩ := h
    refine ⟨_, (pss_one (ps_ret (pe_and (pe_callB call_isiT (by rfl) T.isinstance (by decide +kernel) (pa_cons (pv 0) (pa_cons (pe_tup (pa_cons (pe_bltn (v := V.ty "tuple") (by rfl) T.tuple (by decide +kernel) rfl) (pa_cons (pe_bltn (v := V.ty "list") (by rfl) T.list (by decide +kernel) rfl) pa_nil))) pa_nil)))
      (pe_one (pe_callB (cr_all rfl) (by rfl) hall (by decide +kernel) (pa_cons (pe_lc (own := [("item", 1)]) (g := gName 1) (tt := tYes) rfl scIsRow.nd (pi_seq (pv 0)) (blkOk_by (N := ["value", "item"]) (sc := defScope sIsRow) (by decide +kernel)) (fun _ _ _ _ _ => pg_name (i := 1) scIsRow.nd rfl (Or.inl rfl)) (fun _ _ _ _ _ => pts_nil)
        (fun _ _ _ _ _ => pe_call Gr.ok hr rfl Gr.m Gr.kp Gr.b .nil pass0 (pa_cons (pv 1) pa_nil))) pa_nil)))))), ?_⟩
    refine ⟨_, rfl, (by show 2 ≤ sizeLine; decide), fun tp ntp => ?_⟩
    have s1 : Same H (upd H tp (HO.tup [V.ty "tuple", V.ty "list"])) := same_upd ntp
    have e1 : upd H tp (HO.tup [V.ty "tuple", V.ty "list"]) tp = some (HO.tup [V.ty "tuple", V.ty "list"]) := upd_same
    generalize upd H tp (HO.tup [V.ty "tuple", V.ty "list"]) = H1 at s1 e1 ⊢
    have hd1 := hd.mono s1
    refine ⟨v, tp, _, _, [.type "tuple", .type "list"], _, rfl, e1, .cons (.ty _) (.cons (.ty _) .nil), hd1.ty, kit_seq d, _, rfl, ?_⟩
    cases hs : seqD d with
    | none =>
      refine iteF ?_
      have z := q H1 s1
      rw [rowD_none hs] at z
      exact z
    | some ds =>
      refine iteT ?_
      obtain ⟨a, xs, rfl, hsq, hds⟩ := hd1.seq hs
      have hl := hds.len
      have hl2 := hlen ds hs
      refine ⟨_, rfl, a, rfl, lc_seq (xs := xs) hsq (fun D i H2 => Same H1 H2 ∧ H2 D = some (.lst ((ds.take i).map fun d => V.bl (partsD d).isSome))) ?_ ?_ ?_ ?_⟩
      · intro D hD
        exact ⟨same_upd hD, upd_same⟩
      · intro D i H2 hD ⟨s2, _⟩
        exact ⟨same_sqL s2, same_sqT s2⟩
      · intro D i x H2 hD hi ⟨s2, e2⟩
        obtain ⟨di, h1, h2⟩ := hds.at hi
        refine ⟨rfl, ?_⟩
        refine ⟨_, rfl, x, di, rfl, h2.mono s2, fun H3 s3 => ?_⟩
        refine ⟨_, s3 _ _ e2, ?_, (fun b o e => ?_), ?_⟩
        · rw [List.length_map, List.length_take, sizeLine_eq]
          omega
        · rw [upd_ne (ne_of_none e hD)]
          exact s3 _ _ (s2 _ _ e)
        · rw [upd_same, map_take_snoc h1]
      · intro D H2 hD ⟨s2, e2⟩
        refine ⟨D, ds.map fun d => (partsD d).isSome, rfl, ?_, ?_⟩
        · rw [List.map_map]
          refine SqL.of ?_
          rw [e2, hl, List.take_length]
          rfl
        · rw [mapM_all]
          have z := q H2 (s1.trans s2)
          rw [rowD_seq hs] at z
          exact z
theorem scPolyI : FnScope ["self", "numbers", "row", "number"] ["self", "numbers"] (defScope sPolyI) := ⟨rfl, rfl, rfl, by decide +kernel, rfl, by decide +kernel, by decide +kernel⟩
theorem ok_poly_init {f : Addr} {fd : FuncData} (F : Fun K "__init__" "Poly.__init__" sPolyI f fd) (T : Bk mg) (C : PoC K mg CP) (N : Ex P w K mg base "BadRow" CR ["row"]) (Gi : Df P w K mg base "is_ratio_row" 3 ["value"] (spIsRow K)) (Gt : Dx P w K mg base "told" 4 ["value", "what"] (spTold K CN)) :
    FnOk P w K mg base (L2.CX P w) 5 f fd ["self", "numbers"] (spPolyI K CP CR) := by
  refine F.okX scPolyI (fun vs H Q E h => ?_) (fun cdv A outer s H vs Q E hr h => ?_)
  · obtain ⟨x, dx, v, d, rfl, _⟩ := h
    rfl
  · obtain ⟨x, dx, v, d, rfl, hx, hd, hlen, q, e⟩ := h
    refine ⟨_, (pss_cons (ps_if (pt_not (pt_val (pe_call Gi.ok (hr.mono (by decide)) rfl Gi.m Gi.kp Gi.b .nil pass0 (pa_cons (pv 1) pa_nil))))
        (pss_one (ps_raise rfl (takes_of rfl rfl rfl rfl) (pmk_oex N.ox N.iC N.tI N.ok (hr.mono (by decide)) N.b .nil pass0 (by rfl) N.m (pa_cons (pv 1) pa_nil))))
        pss_nil)
      (PSs.nox (pss_cons (ps_setLc (i := 2) (own := [("number", 3)]) (g := gName 3) (tt := tYes) rfl scPolyI.nd rfl rfl (sw_true rfl rfl rfl (by decide +kernel)) (pi_seq (pv 1)) (blkOk_by (N := ["self", "numbers", "row", "number"]) (sc := defScope sPolyI) (by decide +kernel)) (fun _ _ _ _ _ => pg_name (i := 3) scPolyI.nd rfl (Or.inl rfl)) (fun _ _ _ _ _ => pts_nil)
          (fun _ _ _ _ _ => pe_call Gt.ok hr rfl Gt.m Gt.kp Gt.b .nil passL (pa_cons (pv 3) (pa_cons pe_str pa_nil))))
      (pss_cons (ps_while PassesOwn.never (PW.pt (pw_and (pt_truth (pv 2) (by intro _; rfl)) (pw_and1 (pt_cmpR op_eq (pe_ix ix_tup (pe_ix ix_list (pv 2) (pe_un un_neg pe_int) (fun _ _ => rfl)) pe_int (fun _ _ => rfl)) pe_int (nomark _)))))
        (pss_one (ps_expr (pe_bm0 PySem.F.plainAttrs_list PySem.F.slot_list_pop PySem.F.type_list_pop mt_pop (pv 2)))))
      (pss_one (ps_fld (pv 0) (pe_callTy call_tuple_of (by rfl) T.tuple (by decide +kernel) (pa_cons (pv 2) pa_nil)) rfl)))))), ?_⟩
    refine ⟨_, rfl, v, d, rfl, hd, hlen, fun H1 s1 => ⟨_, rfl, ?_⟩⟩
    have hd1 := hd.mono s1
    cases hp : rowD d with
    | none =>
      refine iteT ?_
      refine ⟨_, rfl, (by show 1 ≤ 1000; decide), ?_⟩
      exact raise_end rfl fun dd H' s2 n e2 => (e hp).same s1 dd H' s2 n e2
    | some ps =>
      refine iteF ?_
      obtain ⟨hbig, q⟩ := q ps hp
      obtain ⟨ds, hs⟩ : ∃ ds, seqD d = some ds := by
        cases hs : seqD d with
        | none => rw [rowD_none hs] at hp; cases hp
        | some ds => exact ⟨ds, rfl⟩
      have hm := hp
      rw [rowD_seq hs] at hm
      obtain ⟨ml, mi⟩ := mapM_some hm
      obtain ⟨a, xs, rfl, hsq, hds⟩ := hd1.seq hs
      have hl := hds.len
      have hl2 := hlen ds hs
      refine ⟨_, rfl, a, rfl, lc_seq (xs := xs) hsq (fun D i H2 => Same H1 H2 ∧ ∃ as, H2 D = some (.lst (as.map V.ref)) ∧ Tups H2 as ((ps.map lowP).take i)) ?_ ?_ ?_ ?_⟩
      · intro D hD
        exact ⟨same_upd hD, [], upd_same, .nil⟩
      · intro D i H2 hD ⟨s2, _⟩
        exact ⟨same_sqL s2, same_sqT s2⟩
      · intro D i y H2 hD hi ⟨s2, as, e2, t2⟩
        obtain ⟨di, h1, h2⟩ := hds.at hi
        obtain ⟨p, h3, h4⟩ := mi i di h1
        obtain ⟨t, b⟩ := p
        refine ⟨rfl, ?_⟩
        refine ⟨_, rfl, y, .str "number", di, rfl, h2.mono s2, fun t' b' hp' => ?_, fun z => by rw [h4] at z; cases z⟩
        rw [h4] at hp'
        cases hp'
        refine ⟨hbig (t, b) (List.mem_of_getElem? h3), fun r H3 s3 e3 => ?_⟩
        have rD : r ≠ D := ne_of e3 (s3 _ _ e2) (by intro z; cases z)
        have up : ∀ (a : Addr) (p : Int × Int), H3 a = some (.tup [.int p.1, .int p.2]) → upd H3 D (.lst (as.map V.ref ++ [V.ref r])) a = some (.tup [.int p.1, .int p.2]) := fun a p z => by
          rw [upd_ne (ne_of z (s3 _ _ e2) (by intro z; cases z))]
          exact z
        refine ⟨_, s3 _ _ e2, ?_, (fun b o e => ?_), as ++ [r], ?_, ?_⟩
        · have := t2.len
          rw [List.length_take, List.length_map] at this
          rw [List.length_map, sizeLine_eq]
          omega
        · rw [upd_ne (ne_of_none e hD)]
          exact s3 _ _ (s2 _ _ e)
        · rw [upd_same, List.map_append]
          rfl
        · rw [List.take_succ, List.getElem?_map, h3]
          exact ((t2.same s3).imp up).snoc (up _ _ e3)
      · intro lr H2 nlr ⟨s2, as, e2, t2⟩
        have tk : (ps.map lowP).take xs.length = ps.map lowP := by
          rw [hl, ml]
          exact List.take_of_length_le (by rw [List.length_map]; exact Nat.le_refl _)
        rw [tk] at t2
        refine ⟨fun m σ H3 => ∃ as qs, m = List.length as ∧ (∃ v3, σ = [some (.ref x), some (.ref a), some (.ref lr), v3]) ∧ Same H1 H3 ∧ H3 lr = some (.lst (as.map V.ref)) ∧ Tups H3 as qs ∧ strip qs = strip (ps.map lowP) ∧ as.length ≤ 1000, ⟨_, as, _, rfl, ⟨_, rfl⟩, s2, e2, t2, rfl, ?_⟩, ?_⟩
        · have := t2.len
          rw [List.length_map] at this
          omega
        · rintro m σ H3 ⟨as, qs, rfl, ⟨v3, rfl⟩, s3, e3, t3, hst, hz⟩
          have fin : strip qs = qs → sFld K (tVar 0) (tCB (fun xs H Q => ∃ p ys, xs = [.ref p] ∧ ((SqL K H p ys ∧ ∀ l, H l = none → Q (.ref l) (upd H l (.tup ys))) ∨ (SqT K H p ys ∧ Q (.ref p) H))) (tCons (tVar 2) tNil)) "numbers" { nx := fun _ H' => Q .non H', rt := Q } [some (.ref x), some (.ref a), some (.ref lr), v3] H3 := fun hqs => by
            refine ⟨_, rfl, lr, _, rfl, .inl ⟨SqL.of e3, fun tq ntq => ?_⟩⟩
            have hx3 := s3 _ _ (s1 _ _ hx)
            have hxq : x ≠ tq := ne_of_none hx3 ntq
            refine ⟨_, rfl, x, CP, dx, [], rfl, (by rw [upd_ne hxq]; exact hx3), C.cl, C.nf, (by decide), ?_⟩
            refine q _ (fun b o nb eb => ?_) ⟨dx, tq, as, upd_same, (by rw [upd_ne hxq.symm]; exact upd_same), ?_⟩
            · have eb3 := s3 _ _ (s1 _ _ eb)
              rw [upd_ne nb, upd_ne (ne_of_none eb3 ntq)]
              exact eb3
            · rw [← hst, hqs]
              refine t3.imp fun c p z => ?_
              rw [upd_ne (ne_of z hx3 (by intro z; cases z)), upd_ne (ne_of_none z ntq)]
              exact z
          rcases snoc_cases qs with rfl | ⟨qs, y, rfl⟩
          · cases t3
            refine ⟨_, rfl, false, .inl ⟨[], SqL.of e3, rfl⟩, ?_⟩
            refine iteF ?_
            refine iteF ?_
            exact fin strip_nil
          · obtain ⟨as', r, rfl, t4, er⟩ := t3.unsnoc
            refine ⟨_, rfl, true, .inl ⟨_, SqL.of e3, by simp⟩, ?_⟩
            refine iteT ?_
            refine ⟨_, rfl, _, rfl, lr, _, _, .ref r, rfl, rfl, SqL.of e3, (by rw [List.map_append]; exact atI_last _ _), r, _, _, .int y.1, rfl, rfl, SqT.of er, at_of (j := 0) rfl rfl, rfl, _, rfl, ?_⟩
            by_cases y0 : y.1 = 0
            · rw [decide_eq_true (by rw [y0])]
              refine iteT ?_
              refine ⟨fun σ' H' => ∃ qs', (∃ v3, σ' = [some (.ref x), some (.ref a), some (.ref lr), v3]) ∧ Same H1 H' ∧ H' lr = some (.lst (as'.map V.ref)) ∧ Tups H' as' qs' ∧ strip qs' = strip (ps.map lowP) ∧ as'.length ≤ 1000, fun σ' H' ⟨qs', h1, h2, h3, h4, h5, h6⟩ => ⟨as'.length, by rw [List.length_append]; simp, as', qs', rfl, h1, h2, h3, h4, h5, h6⟩, ?_⟩
              refine ⟨_, rfl, .inl ⟨rfl, _, SqL.of e3⟩, lr, _, .ref r, rfl, rfl, e3, ?_, ?_⟩
              · simp
              · refine ⟨qs, ⟨_, rfl⟩, fun b o eb => ?_, ?_, ?_, ?_, ?_⟩
                · rw [upd_ne (ne_of_none eb nlr)]
                  exact s3 _ _ eb
                · rw [upd_same, List.map_append]
                  simp
                · refine t4.imp fun c p z => ?_
                  rw [upd_ne (ne_of z e3 (by intro z; cases z))]
                  exact z
                · rw [strip_snoc, if_pos y0] at hst
                  exact hst
                · rw [List.length_append] at hz
                  omega
            · rw [decide_eq_false (fun z => y0 (by have z2 := V.int.inj z; exact z2))]
              refine iteF ?_
              exact fin (by rw [strip_snoc, if_neg y0])
def spPolyE (K : PySem.W.Frag) (CP : Addr) : Sp := fun vs H Q _ => ∃ (a : Addr) (rs : List (Int × Int)) (v : V), vs = [.ref a, v] ∧ PolyAt K CP H a rs ∧
  ((∃ (b : Addr) (rs2 : List (Int × Int)), v = .ref b ∧ PolyAt K CP H b rs2 ∧ Q (.bl (decide (rs = rs2))) H) ∨ (∃ d, Dt K H v d ∧ Q (.bl false) H))
def spPolyD (K : PySem.W.Frag) (CP : Addr) : Sp := fun vs H Q _ => ∃ (a : Addr) (rs : List (Int × Int)), vs = [.ref a] ∧ PolyAt K CP H a rs ∧ Q (.int ((rs.length : Int) - 1)) H
def leadP (rs : List (Int × Int)) : Int × Int := rs.getLast?.getD (0, 1)
theorem scPolyE : FnScope ["self", "other"] ["self", "other"] (defScope sPolyE) := ⟨rfl, rfl, rfl, by decide +kernel, rfl, by decide +kernel, by decide +kernel⟩
theorem ok_poly_eq {f : Addr} {fd : FuncData} (F : Fun K "__eq__" "Poly.__eq__" sPolyE f fd) (T : Bk mg) (hm1 : M1 base) (C : PoC K mg CP) : FnOk P w K mg base CX0 1 f fd ["self", "other"] (spPolyE K CP) := by
  refine F.ok scPolyE (fun vs H Q E h => ?_) (fun cdv A outer s H vs Q E hr h => ?_)
  · obtain ⟨a, rs, v, rfl, _⟩ := h
    rfl
  · obtain ⟨a, rs, v, rfl, ha, q⟩ := h
    refine ⟨_, (pss_one (ps_ret (pe_and (pe_callB call_isi (by rfl) T.isinstance (by decide +kernel) (pa_cons (pv 1) (pa_cons (pe_glob (v := V.ref CP) rfl C.m rfl) pa_nil))) (pe_one (pe_cmpR (op_eqT hr.units hm1) (pe_fld (pv 0) rfl) (pe_fld (pv 1) rfl) (nomark _)))))), ?_⟩
    rcases q with ⟨b, rs2, rfl, hb, q⟩ | ⟨d, hd, q⟩
    · refine ⟨_, rfl, .ref b, .ref CP, _, .ref CP, _, rfl, .own _, hb.ty C, C.io, _, rfl, ?_⟩
      refine iteT ?_
      obtain ⟨dx, t, as, h1, h2, h3⟩ := ha
      obtain ⟨dx2, t2, as2, g1, g2, g3⟩ := hb
      refine ⟨_, rfl, a, CP, dx, _, .ref t, rfl, h1, C.cl, C.nf, (by kernel_rfl), _, rfl, b, CP, dx2, _, .ref t2, rfl, g1, C.cl, C.nf, (by kernel_rfl), ?_⟩
      refine ⟨.tuple (rs.map pairD), .tuple (rs2.map pairD), .tup (SqT.of h2) h3.dts, .tup (SqT.of g2) g3.dts, (plain_row _).1, (plain_row _).1, (depth_row _).1, ?_⟩
      rw [eqv_row]
      exact q
    · refine ⟨_, rfl, v, .ref CP, _, .ref CP, _, rfl, .own _, hd.ty, C.no d, _, rfl, ?_⟩
      refine iteF ?_
      exact q
theorem scPolyD : FnScope ["self"] ["self"] (defScope sPolyD) := ⟨rfl, rfl, rfl, by decide +kernel, rfl, by decide +kernel, by decide +kernel⟩
theorem ok_poly_degree {f : Addr} {fd : FuncData} (F : Fun K "degree" "Poly.degree" sPolyD f fd) (T : Bk mg) (C : PoC K mg CP) : FnOk P w K mg base CX0 1 f fd ["self"] (spPolyD K CP) := by
  refine F.ok scPolyD (fun vs H Q E h => ?_) (fun cdv A outer s H vs Q E hr h => ?_)
  · obtain ⟨a, rs, rfl, _⟩ := h
    rfl
  · obtain ⟨a, rs, rfl, ⟨dx, t, as, h1, h2, h3⟩, q⟩ := h
    refine ⟨_, (pss_one (ps_ret (pe_op op_sub (pe_callB call_len_seq (by rfl) T.len (by decide +kernel) (pa_cons (pe_fld (pv 0) rfl) pa_nil)) pe_int))), ?_⟩
    refine ⟨_, rfl, a, CP, dx, _, .ref t, rfl, h1, C.cl, C.nf, (by kernel_rfl), t, _, rfl, .inr (SqT.of h2), _, _, rfl, rfl, ?_⟩
    rw [List.length_map, h3.len]
    exact q
end

end Vf

set_option maxRecDepth 100000
set_option maxHeartbeats 8000000
namespace Vf
open PySem PySem.Spec PyProof.Rows L2
open LamX (ExtN Tabs TabS)
/-- a law's body, nothing leaves it, its own code object known -/
theorem fnG_of1 {P : Program} {w : World} {K : PySem.W.Frag} {mg : Str → Option Value} {base : Heap} {x qual : Str} {st : Stmt} {f : Addr} {fd : FuncData} {N ps : List Str} {k : Nat} {sp : Sp} (F : Fun K x qual st f fd) (S : FnScope N ps (defScope st))
    (ar : ∀ vs H Q E, sp vs H Q E → vs.length = ps.length)
    (body : ∀ (cdv : Value) (A : Around) (out : List Env) (s : Shared) (H : Hp) (vs : List V) (Q : VK) (E : XK), A.guards = some [] → Room k (A.deeper (envOfC qual (defScope st) s.heap.objs.size f cdv)) → fd.code = cdv → sp vs H Q E →
      ∃ t, PSs (cxOf CX0 P w K mg base N qual (defScope st) f cdv A out s H E).nox (defBody st) t ∧ t { nx := fun _ H' => Q .non H', rt := Q } (start N vs) H) : FnG P w K mg base CX0 (k + 1) f fd ps sp := by
  obtain ⟨oc, od, kV, doc, pm, an, cdv, ct, osl, e, lk, hcd⟩ := F.ex
  subst e
  refine ⟨ar, fun {A out s H args us vs Q E} hgu hr e0 hb r h => LamX.run_ofS lk hcd S hr e0 hb r (ar _ _ _ _ h) fun hr' => ?_⟩
  obtain ⟨t, z, q⟩ := body cdv A out s H vs Q E hgu hr' rfl h
  exact ⟨t, z.nox, q⟩
/-- the law's def of whys, as the written part tells it -/
structure Yy (K : PySem.W.Frag) (mg : Str → Option Value) where
  g : Addr
  kV : Value
  doc : Value
  pm : Value
  an : Option Addr
  cdv : Value
  ct : Value
  oc : Value
  od : Option Addr
  osl : Array (Option Value)
  m : mg "_law_why" = some (.ref g)
  kp : PySem.W.keepIn K (.ref g) = true
  lk : K.lookup g = some ⟨oc, od, .func (PySem.W.fnOf "_law_why" "_law_why" (defArgs sWhy) (defBody sWhy) (defScope sWhy) .none kV doc pm an cdv ct), osl⟩
  hc : PySem.W.codeIn K cdv "_law_why" = true
  b : L2.Binds K (PySem.W.fnOf "_law_why" "_law_why" (defArgs sWhy) (defBody sWhy) (defScope sWhy) .none kV doc pm an cdv ct) ["_law_call"] []
/-- the class of polynomials with its defs -/
structure PoM (P : Program) (w : World) (K : PySem.W.Frag) (mg : Str → Option Value) (base : Heap) (CP CR : Addr) where
  C : PoC K mg CP
  fI : Addr
  dI : FuncData
  mkI : Mk K CP fI
  bI : Binds K dI ["self", "numbers"] []
  okI : FnOk P w K mg base (L2.CX P w) 5 fI dI ["self", "numbers"] (spPolyI K CP CR)
  fE : Addr
  dE : FuncData
  aE : PySem.W.findIn K (.ref CP) "__eq__" = some (some (.ref fE))
  nE : PySem.W.isFn K (.ref fE) = true
  bE : Binds K dE ["self", "other"] []
  okE : FnOk P w K mg base CX0 1 fE dE ["self", "other"] (spPolyE K CP)
theorem rNe_no {x y : Str} {H : Hp} {B : Bool → Hp → Prop} (h : x = y) (g : B false H) : rNe (.str x) (.str y) H (fun v H' => ∃ k, v = V.bl k ∧ B k H') := by
  subst h
  exact ⟨rfl, false, by rw [decide_eq_true rfl]; rfl, g⟩
theorem rNe_int {x y : Int} {H : Hp} {B : Bool → Hp → Prop} (g : x = y → B false H) (h : x ≠ y → B true H) : rNe (.int x) (.int y) H (fun v H' => ∃ k, v = V.bl k ∧ B k H') := by
  by_cases e : x = y
  · exact ⟨rfl, false, by rw [decide_eq_true (by rw [e])]; rfl, g e⟩
  · exact ⟨rfl, true, by rw [decide_eq_false (fun z => e (V.int.inj z))]; rfl, h e⟩
/-- changes at lists and at the pen alone -/
theorem Pen.put {H H' : Hp} {p l b : Addr} {B : Int} (h : Pen H p l B) (k : ∀ c u, c ≠ b → H c = some u → H' c = some u) (h1 : b ≠ p) (h2 : b ≠ l) : Pen H' p l B := by
  obtain ⟨ns, a, d, c, f, ⟨g1, g2, g3⟩, hc⟩ := h
  exact ⟨ns, a, d, c, f, ⟨k _ _ h1.symm g1, k _ _ h2.symm g2, g3⟩, hc⟩
theorem Pen.lc {H : Hp} {p l : Addr} {B : Int} (h : Pen H p l B) : ∃ xs, H l = some (.lst xs) := by
  obtain ⟨ns, a, d, c, f, ⟨g1, g2, g3⟩, hc⟩ := h
  exact ⟨_, g2⟩
theorem Pen.ne_new {H : Hp} {p l b : Addr} {B : Int} (h : Pen H p l B) (n : H b = none) : b ≠ p ∧ b ≠ l := by
  obtain ⟨o, e⟩ := h.there
  obtain ⟨xs, e2⟩ := h.lc
  exact ⟨(ne_of_none e n).symm, (ne_of_none e2 n).symm⟩
theorem tabs_lst {T : List (Addr × Str)} {H H' : Hp} {b : Addr} {xs : List V} (hb : H b = some (.lst xs)) (k : ∀ c u, c ≠ b → H c = some u → H' c = some u) (t : Tabs T H) : Tabs T H' := fun y hy => by
  obtain ⟨ps, h1, h2, h3⟩ := t y hy
  refine ⟨ps, k _ _ (ne_of h1 hb (by intro z; cases z)) h1, h2, fun pos cv hc => ?_⟩
  obtain ⟨c', e1, e2⟩ := h3 pos cv hc
  exact ⟨c', e1, k _ _ (ne_of e2 hb (by intro z; unfold LamX.CodeO at z; cases z)) e2⟩
theorem upd_away {H : Hp} {b : Addr} {o : HO} : ∀ c u, c ≠ b → H c = some u → upd H b o c = some u := fun c u h e => by rw [upd_ne h]; exact e
theorem Tups.lst {H H' : Hp} {b : Addr} {xs : List V} (hb : H b = some (.lst xs)) (k : ∀ c u, c ≠ b → H c = some u → H' c = some u) {as : List Addr} {ps : List (Int × Int)} (h : Tups H as ps) : Tups H' as ps :=
  h.imp fun a p z => k _ _ (ne_of z hb (by intro z; cases z)) z
theorem Tups.kp {H H' : Hp} {p l : Addr} {B : Int} (hP : Pen H p l B) (k : Kp p H H') {as : List Addr} {ps : List (Int × Int)} (h : Tups H as ps) : Tups H' as ps := by
  obtain ⟨ns, a, d, c, f, ⟨g1, g2, g3⟩, hc⟩ := hP
  exact h.imp fun a p z => k _ _ (ne_of z g1 (by intro z; cases z)) z
theorem Tups.rep {H : Hp} {a : Addr} {p : Int × Int} (h : H a = some (.tup [.int p.1, .int p.2])) : ∀ n : Nat, Tups H (List.replicate n a) (List.replicate n p)
  | 0 => .nil
  | n + 1 => .cons h (Tups.rep h n)
theorem flat_rep (n : Nat) (a : Addr) : (List.replicate n [V.ref a]).flatten = (List.replicate n a).map V.ref := by
  rw [List.flatten_replicate_singleton, List.map_replicate]
theorem parts_pairD {p : Int × Int} (h : 0 < p.2) : partsD (pairD p) = some p := by
  obtain ⟨t, b⟩ := p
  show (if 0 < b then some (t, b) else none) = some (t, b)
  rw [if_pos h]
/-- the law's promise -/
def spLaw (K : PySem.W.Frag) (Pt : Addr) : Sp := fun vs H Q _ => ∃ (a : Addr) (ns : List Int), vs = [.ref a] ∧ SqL K H a (ns.map V.int) ∧ ns.length ≤ 63 ∧ H Pt = some (.tbl #[]) ∧ ∀ H', Q (.bl true) H'
theorem qual_eq {P : Program} {w : World} {K : PySem.W.Frag} {mg : Str → Option Value} {base : Heap} {N : List Str} {qual : Str} {sc : Scope} {f : Addr} {cd : Value} {A : Around} {o : List Env} {s : Shared} {H : Hp} {E : XK} {CT : CXT} : (cxOf CT P w K mg base N qual sc f cd A o s H E).nox.env.qual = qual ++ ".<locals>." := rfl
/-- the table of the law's own code objects -/
def Ts (Pt : Addr) : List (Addr × Str) := [(Pt, (Str.ofString "law" ++ Str.ofString ".<locals>.") ++ Str.ofString "<lambda>")]
theorem ts_mem (Pt : Addr) : (Pt, (Str.ofString "law" ++ Str.ofString ".<locals>.") ++ Str.ofString "<lambda>") ∈ Ts Pt := List.mem_singleton.mpr rfl
theorem ts_only (Pt : Addr) : ∀ p ∈ Ts Pt, p.1 = Pt → p.2 = (Str.ofString "law" ++ Str.ofString ".<locals>.") ++ Str.ofString "<lambda>" := fun p hp _ => by rw [List.mem_singleton.mp hp]

end Vf

set_option maxRecDepth 100000
set_option maxHeartbeats 8000000
namespace Vf
open PySem PySem.Spec PyProof.Rows L2
/-! ### the program's reader -/
/-- an error of BadText -/
def RaisesT (CT : Addr) (H : Hp) (c : Int) (E : XK) : Prop := ∀ (d : Addr) (H' : Hp), Same H H' → H d = none → H' d = some (.xd (fl ["column"] [.int c])) → E (.ref CT) (some d) H'
theorem RaisesT.same {CT : Addr} {H H1 : Hp} {c : Int} {E : XK} (s : Same H H1) (h : RaisesT CT H c E) : RaisesT CT H1 c E := fun d H' s' n e => h d H' (s.trans s') (s.free n) e
/-- the error that is due, if one is -/
def Rn (CT : Addr) (H : Hp) (n : Nat) (E : XK) : Prop := n ≠ 0 → RaisesT CT H (n : Int) E
theorem Rn.same {CT : Addr} {H H1 : Hp} {n : Nat} {E : XK} (s : Same H H1) (h : Rn CT H n E) : Rn CT H1 n E := fun z => (h z).same s
theorem Rn.at {CT : Addr} {H : Hp} {n k : Nat} {c : Int} {E : XK} (h : Rn CT H n E) (e : n = k + 1) (hc : c = ((k + 1 : Nat) : Int)) : RaisesT CT H c E := by
  subst e hc
  exact h (Nat.succ_ne_zero _)
theorem Rn.to {CT : Addr} {H : Hp} {n m : Nat} {E : XK} (h : Rn CT H n E) (e : n = m) : Rn CT H m E := e ▸ h
def dgA (t : List Nat) (a : Nat) : Bool := match t[a]? with
  | some c => isD c
  | none => false
theorem dgA_some {t : List Nat} {a : Nat} (h : dgA t a = true) : ∃ c, t[a]? = some c ∧ isD c = true := by
  unfold dgA at h
  cases h2 : t[a]? with
  | none => rw [h2] at h; cases h
  | some c => rw [h2] at h; exact ⟨c, rfl, h⟩
theorem dgA_no {t : List Nat} {a : Nat} (h : dgA t a = false) : ∀ c, t[a]? = some c → isD c = false := by
  intro c hc
  unfold dgA at h
  rw [hc] at h
  exact h
theorem dgA_of {t : List Nat} {a c : Nat} (h : t[a]? = some c) : dgA t a = isD c := by
  unfold dgA
  rw [h]
theorem ix_tx {t : List Nat} {a c : Nat} {i : Int} (h : t[a]? = some c) (e : i = (a : Int)) : atI (Tx t).cps.toList i = some c := by
  rw [tx_cps]
  have hl := (List.getElem?_eq_some_iff.mp h).1
  unfold atI ixN
  rw [if_pos (by omega), if_pos (by omega)]
  show t[i.toNat]? = some c
  rw [show i.toNat = a by omega]
  exact h
def spBeh : Sp := fun vs H Q _ => ∃ (t : List Nat) (z : Int) (a : Nat), vs = [.str (Tx t), .int z] ∧ z = (a : Int) ∧ t.length ≤ 1000 ∧ Q (.int ((beh t a : Nat) : Int)) H
def spIsD : Sp := fun vs H Q _ => ∃ (t : List Nat) (z : Int) (a : Nat), vs = [.str (Tx t), .int z] ∧ z = (a : Int) ∧ t.length ≤ 1000 ∧ Q (.bl (dgA t a)) H
def spRW (CT : Addr) : Sp := fun vs H Q E => ∃ (t : List Nat) (z : Int) (a : Nat), vs = [.str (Tx t), .int z] ∧ z = (a : Int) ∧ t.length ≤ 1000 ∧ (dgA t a = false → RaisesT CT H ((a + 1 : Nat) : Int) E) ∧
  ∀ j, Wh t a j → ∀ (p : Addr) (H' : Hp), Same H H' → H' p = some (.tup [.int ((PySem.NumText.digitsVal (seg t a j) : Nat) : Int), .int ((a + j : Nat) : Int)]) → Q (.ref p) H'
/-- a number that has been read -/
structure NumOk (t : List Nat) (a e : Nat) (x y : Int) : Prop where
  lt : a < e
  le : e ≤ t.length
  x0 : 0 ≤ x
  y0 : 0 < y
  xb : x.natAbs ≤ 16 ^ (e - a)
  yb : y.natAbs ≤ 16 ^ (e - a)
def spRN (CT : Addr) : Sp := fun vs H Q E => ∃ (t : List Nat) (z : Int) (a : Nat), vs = [.str (Tx t), .int z] ∧ z = (a : Int) ∧ t.length ≤ 1000 ∧ t[a]? ≠ some 32 ∧ t[a]? ≠ some 120 ∧ Rn CT H (Cl t .mi a) E ∧
  ∀ (x y : Int) (e : Nat) (p q : Addr) (H' : Hp), Same H H' → H' p = some (.tup [.ref q, .int (e : Int)]) → H' q = some (.tup [.int x, .int y]) → NumOk t a e x y → Cl t .mi a = num t e → Q (.ref p) H'
def spRP (CT : Addr) : Sp := fun vs H Q E => ∃ (t : List Nat) (z : Int) (a : Nat), vs = [.str (Tx t), .int z] ∧ z = (a : Int) ∧ t.length ≤ 1000 ∧ (t[a]? ≠ some 120 → RaisesT CT H ((a + 1 : Nat) : Int) E) ∧ (t[a]? = some 120 → Rn CT H (Cl t .xx (a + 1)) E ∧
  ∀ (k : Int) (e : Nat) (p : Addr) (H' : Hp), Same H H' → H' p = some (.tup [.int k, .int (e : Int)]) → 0 ≤ k → k ≤ 12 → a < e → e ≤ t.length → Cl t .xx (a + 1) = aft t e → Q (.ref p) H')
def spRT (CT : Addr) : Sp := fun vs H Q E => ∃ (t : List Nat) (z : Int) (a : Nat), vs = [.str (Tx t), .int z] ∧ z = (a : Int) ∧ t.length ≤ 1000 ∧ t[a]? ≠ some 32 ∧ Rn CT H (Cl t .mi a) E ∧
  ∀ (x y k : Int) (e : Nat) (p q : Addr) (H' : Hp), Same H H' → H' p = some (.tup [.ref q, .int k, .int (e : Int)]) → H' q = some (.tup [.int x, .int y]) → NumOk t a e x y → 0 ≤ k → k ≤ 12 → Cl t .mi a = aft t e → Q (.ref p) H'
def sgn (t : List Nat) (a : Nat) : Int := if t[a]? = some 43 then 1 else if t[a]? = some 45 then -1 else 0
def spSg : Sp := fun vs H Q _ => ∃ (t : List Nat) (z : Int) (a : Nat), vs = [.str (Tx t), .int z] ∧ z = (a : Int) ∧ t.length ≤ 1000 ∧ Q (.int (sgn t a)) H
section
variable {P : Program} {w : World} {K : PySem.W.Frag} {mg : Str → Option Value} {base : Heap} {CT CP CR CN : Addr}
abbrev sBeh : Stmt := topS 26
theorem scBeh : FnScope ["text", "at"] ["text", "at"] (defScope sBeh) := ⟨rfl, rfl, rfl, by decide +kernel, rfl, by decide +kernel, by decide +kernel⟩
theorem ok_beh {f : Addr} {fd : FuncData} (F : Fun K "behind_spaces" "behind_spaces" sBeh f fd) : FnOk P w K mg base CX0 1 f fd ["text", "at"] spBeh := by
  refine F.ok scBeh (fun vs H Q E h => ?_) (fun cdv A outer s H vs Q E hr h => ?_)
  · obtain ⟨t, z, a, rfl, _⟩ := h
    rfl
  · obtain ⟨t, z, a, rfl, rfl, hl, q⟩ := h
    refine ⟨_, (pss_cons (ps_while PassesOwn.never (pt_cmpR op_eq (pe_slice sl_str (pv 0) (po_some (pv 1)) (po_some (pe_op op_add (pv 1) pe_int))) pe_str (nomark _))
    (pss_one (ps_set (i := 1) scBeh.nd rfl (Or.inl rfl) (pe_op op_add (pv 1) pe_int))))
  (pss_one (ps_ret (pv 1)))), ?_⟩
    refine ⟨fun m σ H1 => H1 = H ∧ ∃ b : Nat, m = t.length - b ∧ σ = [some (.str (Tx t)), some (.int (b : Int))] ∧ beh t b = beh t a, ⟨_, rfl, a, rfl, rfl, rfl⟩, ?_⟩
    rintro m σ H1 ⟨rfl, b, rfl, rfl, hb⟩
    refine ⟨_, rfl, _, rfl, _, rfl, _, rfl, _, _, rfl, rfl, _, rfl, ⟨Tx t, rfl, by rw [tx_len, sizeLine_eq]; omega, rfl, ?_⟩⟩
    refine ⟨_, rfl, ?_⟩
    rw [tx_sign t (m := b) rfl rfl, lit_sp, sign_eq]
    by_cases h : t[b]? = some 32
    · rw [decide_eq_true h]
      refine iteT ?_
      have := (List.getElem?_eq_some_iff.mp h).1
      refine ⟨fun σ' H' => H' = H1 ∧ σ' = [some (.str (Tx t)), some (.int ((b + 1 : Nat) : Int))], fun σ' H' ⟨h1, h2⟩ => ⟨t.length - (b + 1), by omega, h1, b + 1, rfl, h2, by rw [← beh_sp h]; exact hb⟩, ?_⟩
      refine ⟨_, rfl, _, _, rfl, rfl, ?_⟩
      exact ⟨rfl, rfl⟩
    · rw [decide_eq_false h]
      refine iteF ?_
      refine ⟨_, rfl, ?_⟩
      rw [beh_no h] at hb
      rw [hb]
      exact q
abbrev sIsD : Stmt := topS 27
theorem scIsD : FnScope ["text", "at"] ["text", "at"] (defScope sIsD) := ⟨rfl, rfl, rfl, by decide +kernel, rfl, by decide +kernel, by decide +kernel⟩
theorem ok_isd {f : Addr} {fd : FuncData} (F : Fun K "is_digit" "is_digit" sIsD f fd) (T : Bk mg) {u : Tok} (m_DIGITS : mg "DIGITS" = some (.str "0123456789" u)) : FnOk P w K mg base CX0 1 f fd ["text", "at"] spIsD := by
  refine F.ok scIsD (fun vs H Q E h => ?_) (fun cdv A outer s H vs Q E hr h => ?_)
  · obtain ⟨t, z, a, rfl, _⟩ := h
    rfl
  · obtain ⟨t, z, a, rfl, rfl, hl, q⟩ := h
    refine ⟨_, (pss_one (ps_ret (pe_and (pe_cmpR op_lt (pv 1) (pe_callB call_len_str (by rfl) T.len (by decide +kernel) (pa_cons (pv 0) pa_nil)) (nomark _)) (pe_one (pe_cmpR op_in_sign (pe_ix ix_str (pv 0) (pv 1) (fun _ _ => rfl)) (pe_glob (v := V.str "0123456789") rfl m_DIGITS ⟨_, rfl⟩) (by rfl)))))), ?_⟩
    have big : (Tx t).length ≤ sizeLine := by rw [tx_len, sizeLine_eq]; omega
    refine ⟨_, rfl, _, rfl, Tx t, rfl, big, ?_⟩
    refine ⟨_, _, rfl, rfl, _, rfl, ?_⟩
    rw [tx_len]
    by_cases h : a < t.length
    · rw [decide_eq_true (by omega)]
      refine iteT ?_
      have e : t[a]? = some t[a] := List.getElem?_eq_getElem h
      refine ⟨_, rfl, _, rfl, Tx t, _, t[a], rfl, rfl, big, ix_tx e rfl, _, _, rfl, rfl, ?_⟩
      rw [lit_digits, tx_cps, in_digits, ← dgA_of e]
      exact q
    · rw [decide_eq_false (by omega)]
      refine iteF ?_
      have e : dgA t a = false := by
        unfold dgA
        rw [List.getElem?_eq_none (by omega)]
      rw [e] at q
      exact q
abbrev sRW : Stmt := topS 28
theorem scRW : FnScope ["text", "at", "end"] ["text", "at"] (defScope sRW) := ⟨rfl, rfl, rfl, by decide +kernel, rfl, by decide +kernel, by decide +kernel⟩
theorem ok_rw {f : Addr} {fd : FuncData} (F : Fun K "read_whole" "read_whole" sRW f fd) (T : Bk mg) (N_BadText : Ex P w K mg base "BadText" CT ["column"]) {u : Tok} (m_MOST_DIGITS : mg "MOST_DIGITS" = some (.int 40 u)) (G_is_digit : Df P w K mg base "is_digit" 1 ["text", "at"] spIsD) : FnOk P w K mg base (L2.CX P w) 3 f fd ["text", "at"] (spRW CT) := by
  refine F.okX scRW (fun vs H Q E h => ?_) (fun cdv A outer s H vs Q E hr h => ?_)
  · obtain ⟨t, z, a, rfl, _⟩ := h
    rfl
  · obtain ⟨t, z, a, rfl, rfl, hl, r, q⟩ := h
    refine ⟨_, (pss_cons (ps_if (pt_not (pt_val (pe_call G_is_digit.ok (hr.mono (by decide)) rfl G_is_digit.m G_is_digit.kp G_is_digit.b .nil pass0 (pa_cons (pv 0) (pa_cons (pv 1) pa_nil)))))
    (pss_one (ps_raise rfl (takes_of rfl rfl rfl rfl) (pmk_oex N_BadText.ox N_BadText.iC N_BadText.tI N_BadText.ok (hr.mono (by decide)) N_BadText.b .nil pass0 (by rfl) N_BadText.m (pa_cons (pe_op op_add (pv 1) pe_int) pa_nil))))
    pss_nil)
  (pss_cons (ps_set (i := 2) scRW.nd rfl (Or.inl rfl) (pe_op op_add (pv 1) pe_int))
  (C8.pss_cut (ps_while (passes_of rfl) (PW.pt (pw_and (pt_cmpR op_ne (pe_ix ix_str (pv 0) (pv 1) (fun _ _ => rfl)) pe_str (nomark _)) (pw_and (pt_val (pe_call G_is_digit.ok (hr.mono (by decide)) rfl G_is_digit.m G_is_digit.kp G_is_digit.b .nil pass0 (pa_cons (pv 0) (pa_cons (pv 2) pa_nil)))) (pw_and1 (pt_cmpR op_lt (pe_op op_sub (pv 2) (pv 1)) (pe_glob (v := V.int 40) rfl m_MOST_DIGITS ⟨_, rfl⟩) (nomark _))))))
    (pss_one (ps_set (i := 2) scRW.nd rfl (Or.inl rfl) (pe_op op_add (pv 2) pe_int))))
  (pss_one (ps_ret (pe_tup (pa_cons (pe_callTy call_int_str (by rfl) T.int (by decide +kernel) (pa_cons (pe_slice sl_str (pv 0) (po_some (pv 1)) (po_some (pv 2))) pa_nil)) (pa_cons (pv 2) pa_nil)))))))), ?_⟩
    have big : (Tx t).length ≤ sizeLine := by rw [tx_len, sizeLine_eq]; omega
    refine ⟨_, rfl, _, rfl, t, _, a, rfl, rfl, hl, _, rfl, ?_⟩
    cases hd : dgA t a with
    | false =>
      refine iteT ?_
      refine ⟨_, rfl, _, _, rfl, rfl, (by show 1 ≤ 1000; decide), ?_⟩
      exact raise_end rfl fun dd H' s2 n e2 => r hd dd H' s2 n e2
    | true =>
      refine iteF ?_
      obtain ⟨c0, h0, d0⟩ := dgA_some hd
      refine ⟨_, rfl, _, _, rfl, rfl, ?_⟩
      refine ⟨fun σ1 H1 => H1 = H ∧ ∃ j : Nat, σ1 = [some (.str (Tx t)), some (.int (a : Int)), some (.int ((a + j : Nat) : Int))] ∧ Wh t a j, ?_, ?_⟩
      · refine ⟨fun m σ H1 => H1 = H ∧ ∃ j : Nat, m = 41 - j ∧ σ = [some (.str (Tx t)), some (.int (a : Int)), some (.int ((a + j : Nat) : Int))] ∧ 1 ≤ j ∧ j ≤ 40 ∧ (∀ i, i < j → ∃ c, t[a + i]? = some c ∧ isD c = true) ∧ (t[a]? = some 48 → j = 1),
          ⟨_, rfl, 1, rfl, rfl, by decide, by decide, fun i hi => ⟨c0, by rw [show i = 0 by omega]; exact h0, d0⟩, fun _ => rfl⟩, ?_⟩
        rintro m σ H1 ⟨rfl, j, rfl, rfl, j1, j40, dg, zz⟩
        have stop : (t[a]? = some 48 ∨ j = 40 ∨ ∀ c, t[a + j]? = some c → isD c = false) → Wh t a j := fun st => ⟨j1, j40, dg, zz, st⟩
        refine ⟨_, rfl, _, rfl, ⟨Tx t, _, c0, rfl, rfl, big, ix_tx h0 rfl, rfl, _, rfl, ?_⟩⟩
        rw [lit_zero, show (⟨#[c0]⟩ : Str) = Tx [c0] from rfl, tx_eq]
        by_cases hz : c0 = 48
        · subst hz
          rw [decide_eq_true rfl]
          refine iteF ?_
          refine iteF ?_
          exact ⟨rfl, j, rfl, stop (.inl h0)⟩
        · rw [decide_eq_false (fun z => hz (List.cons.inj z).1)]
          refine iteT ?_
          refine ⟨_, rfl, _, rfl, t, _, a + j, rfl, rfl, hl, _, rfl, ?_⟩
          cases hdj : dgA t (a + j) with
          | false =>
            refine iteF ?_
            refine iteF ?_
            exact ⟨rfl, j, rfl, stop (.inr (.inr (dgA_no hdj)))⟩
          | true =>
            refine iteT ?_
            refine ⟨_, rfl, _, rfl, _, _, rfl, rfl, _, _, rfl, rfl, _, rfl, ?_⟩
            by_cases h40 : j = 40
            · rw [decide_eq_false (by omega)]
              refine iteF ?_
              exact ⟨rfl, j, rfl, stop (.inr (.inl h40))⟩
            · rw [decide_eq_true (by omega)]
              refine iteT ?_
              obtain ⟨c1, h1, d1⟩ := dgA_some hdj
              refine ⟨fun σ' H' => H' = H1 ∧ σ' = [some (.str (Tx t)), some (.int (a : Int)), some (.int ((a + (j + 1) : Nat) : Int))], fun σ' H' ⟨z1, z2⟩ => ⟨41 - (j + 1), by omega, z1, j + 1, rfl, z2, by omega, by omega, fun i hi => ?_, fun z => ?_⟩, ?_⟩
              · by_cases hij : i = j
                · subst hij
                  exact ⟨c1, h1, d1⟩
                · exact dg i (by omega)
              · rw [h0] at z
                exact absurd (Option.some.inj z) hz
              · exact ⟨_, rfl, _, _, rfl, rfl, rfl, rfl⟩
      · rintro σ1 H1 ⟨rfl, j, rfl, W⟩
        have sl := seg_len W.dg
        refine ⟨_, rfl, _, rfl, _, rfl, _, rfl, _, rfl, ⟨Tx t, rfl, big, ?_⟩⟩
        rw [tx_cut t (m := a) (n := a + j) rfl rfl, show a + j - a = j by omega]
        refine ⟨Tx (seg t a j), _, rfl, int_tx (seg_dig W.dg) (fun z => by rw [z] at sl; have := W.j1; simp at sl; omega) (by have := W.j40; omega), by rw [tx_len]; have := W.j40; omega, ?_⟩
        refine ⟨_, rfl, (by show 2 ≤ sizeLine; decide), fun p np => ?_⟩
        exact q j W p _ (same_upd np) upd_same
abbrev sRN : Stmt := topS 29
theorem scRN : FnScope ["text", "at", "top", "end", "bottom", "behind"] ["text", "at"] (defScope sRN) := ⟨rfl, rfl, rfl, by decide +kernel, rfl, by decide +kernel, by decide +kernel⟩
theorem ok_rn {f : Addr} {fd : FuncData} (F : Fun K "read_number" "read_number" sRN f fd) (T : Bk mg) (N_BadText : Ex P w K mg base "BadText" CT ["column"]) (G_read_whole : Dx P w K mg base "read_whole" 3 ["text", "at"] (spRW CT)) : FnOk P w K mg base (L2.CX P w) 4 f fd ["text", "at"] (spRN CT) := by
  refine F.okX scRN (fun vs H Q E h => ?_) (fun cdv A outer s H vs Q E hr h => ?_)
  · obtain ⟨t, z, a, rfl, _⟩ := h
    rfl
  · obtain ⟨t, z, a, rfl, rfl, hl, n32, n120, r, q⟩ := h
    have big : (Tx t).length ≤ sizeLine := by rw [tx_len, sizeLine_eq]; omega
    refine ⟨_, (pss_cons (ps_asg (pe_call G_read_whole.ok (hr.mono (by decide)) rfl G_read_whole.m G_read_whole.kp G_read_whole.b .nil (E := E) (passes_call (takes_of rfl rfl rfl rfl) (fun _ _ _ _ h => h)) (pa_cons (pv 0) (pa_cons (pv 1) pa_nil))) (pg_tup (by rfl) (pgs_cons (pg_name (i := 2) scRN.nd rfl (Or.inl rfl)) (pgs_cons (pg_name (i := 3) scRN.nd rfl (Or.inl rfl)) pgs_nil))))
  (pss_cons (ps_if (pt_cmpR op_ne (pe_slice sl_str (pv 0) (po_some (pv 3)) (po_some (pe_op op_add (pv 3) pe_int))) pe_str (nomark _))
    (pss_one (ps_ret (pe_tup (pa_cons (pe_tup (pa_cons (pv 2) (pa_cons pe_int pa_nil))) (pa_cons (pv 3) pa_nil)))))
    pss_nil)
  (pss_cons (ps_asg (pe_call G_read_whole.ok (hr.mono (by decide)) rfl G_read_whole.m G_read_whole.kp G_read_whole.b .nil (E := E) (passes_call (takes_of rfl rfl rfl rfl) (fun _ _ _ _ h => h)) (pa_cons (pv 0) (pa_cons (pe_op op_add (pv 3) pe_int) pa_nil))) (pg_tup (by rfl) (pgs_cons (pg_name (i := 4) scRN.nd rfl (Or.inl rfl)) (pgs_cons (pg_name (i := 5) scRN.nd rfl (Or.inl rfl)) pgs_nil))))
  (pss_cons (ps_if (pt_cmpR op_eq (pv 4) pe_int (nomark _))
    (pss_one (ps_raise rfl (takes_of rfl rfl rfl rfl) (pmk_oex N_BadText.ox N_BadText.iC N_BadText.tI N_BadText.ok (hr.mono (by decide)) N_BadText.b .nil pass0 (by rfl) N_BadText.m (pa_cons (pe_op op_add (pv 3) pe_int) pa_nil))))
    pss_nil)
  (pss_one (ps_ret (pe_tup (pa_cons (pe_tup (pa_cons (pv 2) (pa_cons (pv 4) pa_nil))) (pa_cons (pv 5) pa_nil))))))))), ?_⟩
    refine ⟨_, rfl, _, rfl, t, _, a, rfl, rfl, hl, fun hd => ?_, fun j W p H1 s1 e1 => ?_⟩
    · exact r.at (mi_no n32 n120 (dgA_no hd)) rfl
    · refine ⟨p, _, rfl, SqT.of e1, rfl, _, _, rfl, _, _, rfl, rfl, ?_⟩
      have lj : a + j ≤ t.length := by
        obtain ⟨c, h, _⟩ := W.dg (j - 1) (by have := W.j1; omega)
        have := (List.getElem?_eq_some_iff.mp h).1
        have := W.j1
        omega
      have j1 := W.j1
      have xl := dv_lt (seg_dig W.dg)
      rw [seg_len W.dg] at xl
      have p16 : ∀ n, 10 ^ n ≤ 16 ^ n := fun n => Nat.pow_le_pow_left (by decide) n
      refine ⟨_, rfl, _, rfl, _, rfl, _, rfl, _, _, rfl, rfl, _, rfl, ⟨Tx t, rfl, big, rfl, _, rfl, ?_⟩⟩
      rw [tx_sign t (m := a + j) rfl rfl, lit_slash, sign_eq]
      by_cases hs : t[a + j]? = some 47
      · rw [decide_eq_true hs]
        refine iteF ?_
        refine ⟨_, rfl, _, rfl, _, _, rfl, rfl, t, _, a + j + 1, rfl, rfl, hl, fun hd => ?_, fun j2 W2 p2 H2 s2 e2 => ?_⟩
        · exact (r.same s1).at ((sl_tp W hs).trans (sl_no (dgA_no hd))) rfl
        · refine ⟨p2, _, rfl, SqT.of e2, rfl, _, _, rfl, _, _, rfl, rfl, ?_⟩
          have lj2 : a + j + 1 + j2 ≤ t.length := by
            obtain ⟨c, h, _⟩ := W2.dg (j2 - 1) (by have := W2.j1; omega)
            have := (List.getElem?_eq_some_iff.mp h).1
            have := W2.j1
            omega
          have j21 := W2.j1
          have yl := dv_lt (seg_dig W2.dg)
          rw [seg_len W2.dg] at yl
          refine ⟨_, rfl, rfl, _, rfl, ?_⟩
          obtain ⟨c2, h2, d2⟩ := W2.dg 0 (by omega)
          obtain ⟨rest, er⟩ := seg_head (t := t) (a := a + j + 1) (j := j2) (c := c2) h2 j21
          by_cases h0 : c2 = 48
          · subst h0
            have e1' := W2.z h2
            subst e1'
            have e0 : PySem.NumText.digitsVal (seg t (a + j + 1) 1) = 0 := by
              rw [seg_one h2]
              rfl
            rw [e0, show decide (V.int ((0 : Nat) : Int) = V.int 0) = true from decide_eq_true rfl]
            refine iteT ?_
            refine ⟨_, rfl, _, _, rfl, rfl, (by show 1 ≤ 1000; decide), ?_⟩
            exact raise_end rfl fun dd H' s3 n e3 => (r.same (s1.trans s2)).at ((sl_tp W hs).trans (sl_zero h2)) rfl dd H' s3 n e3
          · have pos : 0 < PySem.NumText.digitsVal (seg t (a + j + 1) j2) := by
              rw [er]
              exact dv_pos d2 h0
            rw [decide_eq_false (fun z => by have := V.int.inj z; omega)]
            refine iteF ?_
            refine ⟨_, rfl, _, rfl, (by show 2 ≤ sizeLine; decide), fun q1 nq1 => ⟨_, rfl, (by show 2 ≤ sizeLine; decide), fun p1 np1 => ?_⟩⟩
            refine q _ _ (a + j + 1 + j2) p1 q1 _ ((s1.trans s2).trans ((same_upd nq1).trans (same_upd np1))) upd_same (same_upd np1 _ _ upd_same) ⟨by omega, lj2, by omega, by omega, ?_, ?_⟩ ?_
            · rw [Int.natAbs_natCast]
              exact Nat.le_trans (Nat.le_of_lt xl) (Nat.le_trans (p16 j) (Nat.pow_le_pow_right (by decide) (by omega)))
            · rw [Int.natAbs_natCast]
              exact Nat.le_trans (Nat.le_of_lt yl) (Nat.le_trans (p16 j2) (Nat.pow_le_pow_right (by decide) (by omega)))
            · exact (sl_tp W hs).trans (num_un W2 (fun z => h0 (by rw [show t[a + j + 1]? = some c2 from h2] at z; exact Option.some.inj z)))
      · rw [decide_eq_false hs]
        refine iteT ?_
        refine ⟨_, rfl, (by show 2 ≤ sizeLine; decide), fun q1 nq1 => ⟨_, rfl, (by show 2 ≤ sizeLine; decide), fun p1 np1 => ?_⟩⟩
        refine q _ _ (a + j) p1 q1 _ (s1.trans ((same_upd nq1).trans (same_upd np1))) upd_same (same_upd np1 _ _ upd_same) ⟨by omega, lj, by omega, by omega, ?_, ?_⟩ (num_tp W hs)
        · rw [Int.natAbs_natCast]
          exact Nat.le_trans (Nat.le_of_lt xl) (Nat.le_trans (p16 j) (Nat.pow_le_pow_right (by decide) (by omega)))
        · exact Nat.succ_le_of_lt (Nat.pow_pos (by decide))
abbrev sRP : Stmt := topS 30
theorem scRP : FnScope ["text", "at", "start"] ["text", "at"] (defScope sRP) := ⟨rfl, rfl, rfl, by decide +kernel, rfl, by decide +kernel, by decide +kernel⟩
def isTw (l : List Nat) : Bool := decide (l = [49, 48]) || (decide (l = [49, 49]) || decide (l = [49, 50]))
theorem isTw_t {l : List Nat} (h : isTw l = true) : ∃ d, l = [49, d] ∧ 48 ≤ d ∧ d ≤ 50 := by
  unfold isTw at h
  rw [Bool.or_eq_true, Bool.or_eq_true, decide_eq_true_eq, decide_eq_true_eq, decide_eq_true_eq] at h
  rcases h with rfl | rfl | rfl
  · exact ⟨_, rfl, by decide, by decide⟩
  · exact ⟨_, rfl, by decide, by decide⟩
  · exact ⟨_, rfl, by decide, by decide⟩
theorem isTw_of {d : Nat} (h : 48 ≤ d ∧ d ≤ 50) : isTw [49, d] = true := by
  have : d = 48 ∨ d = 49 ∨ d = 50 := by omega
  rcases this with rfl | rfl | rfl <;> decide
theorem eqV_tx (a l : List Nat) : eqV (V.str (Tx a)) (V.str (Tx l)) = decide (l = a) := by
  show (Tx a == Tx l) = _
  by_cases h : l = a
  · subst h; simp
  · rw [decide_eq_false h]
    exact beq_eq_false_iff_ne.mpr (fun z => h (tx_inj z).symm)
theorem in_twelve (l : List Nat) : inV (V.str (Tx l)) [V.str "10", V.str "11", V.str "12"] = isTw l := by
  unfold inV isTw
  rw [lit_10, lit_11, lit_12, List.any_cons, List.any_cons, List.any_cons, List.any_nil, eqV_tx, eqV_tx, eqV_tx, Bool.or_false]
theorem ok_rp {f : Addr} {fd : FuncData} (F : Fun K "read_power" "read_power" sRP f fd) (T : Bk mg) (N_BadText : Ex P w K mg base "BadText" CT ["column"]) (G_is_digit : Df P w K mg base "is_digit" 1 ["text", "at"] spIsD) : FnOk P w K mg base (L2.CX P w) 3 f fd ["text", "at"] (spRP CT) := by
  refine F.okX scRP (fun vs H Q E h => ?_) (fun cdv A outer s H vs Q E hr h => ?_)
  · obtain ⟨t, z, a, rfl, _⟩ := h
    rfl
  · obtain ⟨t, z, a, rfl, rfl, hl, r0, q0⟩ := h
    have big : (Tx t).length ≤ sizeLine := by rw [tx_len, sizeLine_eq]; omega
    refine ⟨_, (pss_cons (ps_if (pt_cmpR op_ne (pe_slice sl_str (pv 0) (po_some (pv 1)) (po_some (pe_op op_add (pv 1) pe_int))) pe_str (nomark _))
    (pss_one (ps_raise rfl (takes_of rfl rfl rfl rfl) (pmk_oex N_BadText.ox N_BadText.iC N_BadText.tI N_BadText.ok (hr.mono (by decide)) N_BadText.b .nil pass0 (by rfl) N_BadText.m (pa_cons (pe_op op_add (pv 1) pe_int) pa_nil))))
    pss_nil)
  (pss_cons (ps_if (pt_cmpR op_ne (pe_slice sl_str (pv 0) (po_some (pe_op op_add (pv 1) pe_int)) (po_some (pe_op op_add (pv 1) pe_int))) pe_str (nomark _))
    (pss_one (ps_ret (pe_tup (pa_cons pe_int (pa_cons (pe_op op_add (pv 1) pe_int) pa_nil)))))
    pss_nil)
  (pss_cons (ps_set (i := 2) scRP.nd rfl (Or.inl rfl) (pe_op op_add (pv 1) pe_int))
  (pss_cons (ps_if (pt_cmpR op_in_seq (pe_slice sl_str (pv 0) (po_some (pv 2)) (po_some (pe_op op_add (pv 2) pe_int))) (pe_tup (pa_cons pe_str (pa_cons pe_str (pa_cons pe_str pa_nil)))) (by rfl))
    (pss_one (ps_ret (pe_tup (pa_cons (pe_callTy call_int_str (by rfl) T.int (by decide +kernel) (pa_cons (pe_slice sl_str (pv 0) (po_some (pv 2)) (po_some (pe_op op_add (pv 2) pe_int))) pa_nil)) (pa_cons (pe_op op_add (pv 2) pe_int) pa_nil)))))
    pss_nil)
  (pss_cons (ps_if (pt_not (pt_val (pe_call G_is_digit.ok (hr.mono (by decide)) rfl G_is_digit.m G_is_digit.kp G_is_digit.b .nil pass0 (pa_cons (pv 0) (pa_cons (pv 2) pa_nil)))))
    (pss_one (ps_raise rfl (takes_of rfl rfl rfl rfl) (pmk_oex N_BadText.ox N_BadText.iC N_BadText.tI N_BadText.ok (hr.mono (by decide)) N_BadText.b .nil pass0 (by rfl) N_BadText.m (pa_cons (pe_op op_add (pv 2) pe_int) pa_nil))))
    pss_nil)
  (pss_one (ps_ret (pe_tup (pa_cons (pe_callTy call_int_str (by rfl) T.int (by decide +kernel) (pa_cons (pe_ix ix_str (pv 0) (pv 2) (fun _ _ => rfl)) pa_nil)) (pa_cons (pe_op op_add (pv 2) pe_int) pa_nil)))))))))), ?_⟩
    refine ⟨_, rfl, _, rfl, _, rfl, _, rfl, _, _, rfl, rfl, _, rfl, ⟨Tx t, rfl, big, rfl, _, rfl, ?_⟩⟩
    rw [tx_sign t (m := a) rfl rfl, lit_x, sign_eq]
    by_cases hx : t[a]? = some 120
    · rw [decide_eq_true hx]
      refine iteF ?_
      obtain ⟨r, q⟩ := q0 hx
      have hla := (List.getElem?_eq_some_iff.mp hx).1
      refine ⟨_, rfl, _, rfl, _, _, rfl, rfl, _, rfl, _, rfl, _, _, rfl, rfl, _, rfl, ⟨Tx t, rfl, big, rfl, _, rfl, ?_⟩⟩
      rw [tx_sign t (m := a + 1) (show (a : Int) + 1 = ((a + 1 : Nat) : Int) from rfl) (show (a : Int) + 2 = (a : Int) + 1 + 1 by omega), lit_hat, sign_eq]
      by_cases hh : t[a + 1]? = some 94
      · rw [decide_eq_true hh]
        refine iteF ?_
        have hlh := (List.getElem?_eq_some_iff.mp hh).1
        refine ⟨_, rfl, _, _, rfl, rfl, ?_⟩
        have e2 : (a : Int) + 2 = ((a + 2 : Nat) : Int) := rfl
        refine ⟨_, rfl, _, rfl, _, rfl, _, rfl, _, _, rfl, rfl, _, rfl, ⟨Tx t, rfl, big, ?_⟩⟩
        rw [tx_cut t (m := a + 2) (n := a + 2 + 2) (show (a : Int) + 2 = ((a + 2 : Nat) : Int) from rfl) (show (a : Int) + 2 + 2 = ((a + 2 + 2 : Nat) : Int) from rfl), show a + 2 + 2 - (a + 2) = 2 by omega]
        refine ⟨(by show 3 ≤ sizeLine; decide), fun tp ntp => ?_⟩
        have s1 : Same H (upd H tp (HO.tup [V.str "10", V.str "11", V.str "12"])) := same_upd ntp
        have e1 : upd H tp (HO.tup [V.str "10", V.str "11", V.str "12"]) tp = some (HO.tup [V.str "10", V.str "11", V.str "12"]) := upd_same
        generalize upd H tp (HO.tup [V.str "10", V.str "11", V.str "12"]) = H1 at s1 e1 ⊢
        refine ⟨tp, _, rfl, .inr (SqT.of e1), rfl, rfl, _, rfl, ?_⟩
        rw [if_neg (by decide), in_twelve]
        have e02 : (t.drop (a + 2)).take 2 = t[a + 2]?.toList ++ t[a + 3]?.toList := by
          cases h2 : t[a + 2]? with
          | none =>
            rw [drop_none h2]
            have : t[a + 3]? = none := List.getElem?_eq_none (by have := List.getElem?_eq_none_iff.mp h2; omega)
            rw [this]
            rfl
          | some c =>
            rw [drop_some h2, List.take_succ_cons, take_one, List.getElem?_drop]
            rfl
        cases h12 : isTw ((t.drop (a + 2)).take 2) with
        | true =>
          refine iteT ?_
          obtain ⟨d, ed, d0, d1⟩ := isTw_t h12
          refine ⟨_, rfl, _, rfl, _, rfl, _, rfl, _, _, rfl, rfl, _, rfl, ⟨Tx t, rfl, big, ?_⟩⟩
          rw [tx_cut t (m := a + 2) (n := a + 2 + 2) (show (a : Int) + 2 = ((a + 2 : Nat) : Int) from rfl) (show (a : Int) + 2 + 2 = ((a + 2 + 2 : Nat) : Int) from rfl), show a + 2 + 2 - (a + 2) = 2 by omega, ed]
          have dd : isD d = true := decide_eq_true (by omega)
          refine ⟨Tx [49, d], _, rfl, int_tx (fun c hc => ?_) (by intro z; cases z) (by show 2 ≤ 640; decide), (by rw [tx_len]; show 2 ≤ 640; decide), ?_⟩
          · simp only [List.mem_cons, List.not_mem_nil, or_false] at hc
            rcases hc with rfl | rfl
            · rfl
            · exact dd
          have e49 : t[a + 2]? = some 49 ∧ t[a + 3]? = some d := by
            rw [e02] at ed
            cases h2 : t[a + 2]? with
            | none =>
              have : t[a + 3]? = none := List.getElem?_eq_none (by have := List.getElem?_eq_none_iff.mp h2; omega)
              rw [h2, this] at ed
              cases ed
            | some c =>
              cases h3 : t[a + 3]? with
              | none => rw [h2, h3] at ed; cases ed
              | some c' => rw [h2, h3] at ed; cases ed; exact ⟨rfl, rfl⟩
          have hl3 := (List.getElem?_eq_some_iff.mp e49.2).1
          refine ⟨_, rfl, _, _, rfl, rfl, (by show 2 ≤ sizeLine; decide), fun p np => ?_⟩
          have ev : PySem.NumText.digitsVal [49, d] = 10 + (d - 48) := rfl
          refine q _ (a + 2 + 2) p _ (s1.trans (same_upd np)) upd_same (by omega) (by rw [ev]; omega) (by omega) (by omega) ?_
          rw [xx_hat hh]
          exact ht_ten e49.1 e49.2 ⟨d0, d1⟩
        | false =>
          refine iteF ?_
          refine ⟨_, rfl, _, rfl, t, _, a + 2, rfl, rfl, hl, _, rfl, ?_⟩
          cases hd : dgA t (a + 2) with
          | false =>
            refine iteT ?_
            refine ⟨_, rfl, _, _, rfl, rfl, (by show 1 ≤ 1000; decide), ?_⟩
            exact raise_end rfl fun dd H' s3 n e3 => (r.same s1).at ((xx_hat hh).trans (ht_no (dgA_no hd))) rfl dd H' s3 n e3
          | true =>
            refine iteF ?_
            obtain ⟨c, hc, dc⟩ := dgA_some hd
            have hl2 := (List.getElem?_eq_some_iff.mp hc).1
            have c57 : 48 ≤ c ∧ c ≤ 57 := of_decide_eq_true dc
            refine ⟨_, rfl, _, rfl, Tx t, _, c, rfl, rfl, big, ix_tx hc rfl, ?_⟩
            refine ⟨Tx [c], _, rfl, int_tx (fun d hd => ?_) (by intro z; cases z) (by show 1 ≤ 640; decide), (by rw [tx_len]; show 1 ≤ 640; decide), ?_⟩
            · simp only [List.mem_cons, List.not_mem_nil, or_false] at hd
              rw [hd]
              exact dc
            refine ⟨_, rfl, _, _, rfl, rfl, (by show 2 ≤ sizeLine; decide), fun p np => ?_⟩
            have ev : PySem.NumText.digitsVal [c] = 0 * 10 + (c - 48) := rfl
            refine q _ (a + 2 + 1) p _ (s1.trans (same_upd np)) upd_same (by omega) (by rw [ev]; omega) (by omega) (by omega) ?_
            rw [xx_hat hh, ht_dig hc dc]
            refine pw_one fun hc49 d hd hd2 => ?_
            rw [e02, hc, show t[a + 3]? = some d from hd, hc49] at h12
            rw [show (some 49 : Option Nat).toList ++ (some d).toList = [49, d] from rfl, isTw_of hd2] at h12
            cases h12
      · rw [decide_eq_false hh]
        refine iteT ?_
        refine ⟨_, rfl, _, _, rfl, rfl, (by show 2 ≤ sizeLine; decide), fun p np => ?_⟩
        exact q 1 (a + 1) p _ (same_upd np) upd_same (by decide) (by decide) (by omega) (by omega) (xx_no hh)
    · rw [decide_eq_false hx]
      refine iteT ?_
      refine ⟨_, rfl, _, _, rfl, rfl, (by show 1 ≤ 1000; decide), ?_⟩
      exact raise_end rfl fun dd H' s3 n e3 => r0 hx dd H' s3 n e3
abbrev sSg : Stmt := topS 32
theorem scSg : FnScope ["text", "at", "sign"] ["text", "at"] (defScope sSg) := ⟨rfl, rfl, rfl, by decide +kernel, rfl, by decide +kernel, by decide +kernel⟩
theorem ok_sg {f : Addr} {fd : FuncData} (F : Fun K "sign_at" "sign_at" sSg f fd) : FnOk P w K mg base CX0 1 f fd ["text", "at"] spSg := by
  refine F.ok scSg (fun vs H Q E h => ?_) (fun cdv A outer s H vs Q E hr h => ?_)
  · obtain ⟨t, z, a, rfl, _⟩ := h
    rfl
  · obtain ⟨t, z, a, rfl, rfl, hl, q⟩ := h
    have big : (Tx t).length ≤ sizeLine := by rw [tx_len, sizeLine_eq]; omega
    refine ⟨_, (pss_cons (ps_set (i := 2) scSg.nd rfl (Or.inl rfl) (pe_slice sl_str (pv 0) (po_some (pv 1)) (po_some (pe_op op_add (pv 1) pe_int))))
  (pss_cons (ps_if (pt_cmpR op_eq (pv 2) pe_str (nomark _))
    (pss_one (ps_ret pe_int))
    pss_nil)
  (pss_one (ps_ret (pe_ifExp (pt_cmpR op_eq (pv 2) pe_str (nomark _)) (pe_un un_neg pe_int) pe_int))))), ?_⟩
    refine ⟨_, rfl, _, rfl, _, rfl, _, rfl, _, _, rfl, rfl, _, rfl, ⟨Tx t, rfl, big, ?_⟩⟩
    rw [tx_sign t (m := a) rfl rfl]
    refine ⟨_, rfl, rfl, _, rfl, ?_⟩
    rw [lit_plus, sign_eq]
    unfold sgn at q
    by_cases h1 : t[a]? = some 43
    · rw [decide_eq_true h1]
      rw [if_pos h1] at q
      refine iteT ?_
      exact q
    · rw [decide_eq_false h1]
      rw [if_neg h1] at q
      refine iteF ?_
      refine ⟨_, rfl, rfl, _, rfl, ?_⟩
      rw [lit_minus, sign_eq]
      by_cases h2 : t[a]? = some 45
      · rw [decide_eq_true h2]
        rw [if_pos h2] at q
        refine iteT ?_
        exact ⟨_, rfl, q⟩
      · rw [decide_eq_false h2]
        rw [if_neg h2] at q
        refine iteF ?_
        exact q
abbrev sRT : Stmt := topS 31
theorem scRT : FnScope ["text", "at", "power", "end", "number", "star"] ["text", "at"] (defScope sRT) := ⟨rfl, rfl, rfl, by decide +kernel, rfl, by decide +kernel, by decide +kernel⟩
theorem ok_rt {f : Addr} {fd : FuncData} (F : Fun K "read_term" "read_term" sRT f fd) (T : Bk mg) (G_behind_spaces : Df P w K mg base "behind_spaces" 1 ["text", "at"] spBeh) (G_read_number : Dx P w K mg base "read_number" 4 ["text", "at"] (spRN CT)) (G_read_power : Dx P w K mg base "read_power" 3 ["text", "at"] (spRP CT)) : FnOk P w K mg base (L2.CX P w) 5 f fd ["text", "at"] (spRT CT) := by
  refine F.okX scRT (fun vs H Q E h => ?_) (fun cdv A outer s H vs Q E hr h => ?_)
  · obtain ⟨t, z, a, rfl, _⟩ := h
    rfl
  · obtain ⟨t, z, a, rfl, rfl, hl, n32, r, q⟩ := h
    have big : (Tx t).length ≤ sizeLine := by rw [tx_len, sizeLine_eq]; omega
    refine ⟨_, (pss_cons (ps_if (pt_cmpR op_eq (pe_slice sl_str (pv 0) (po_some (pv 1)) (po_some (pe_op op_add (pv 1) pe_int))) pe_str (nomark _))
    (pss_cons (ps_asg (pe_call G_read_power.ok (hr.mono (by decide)) rfl G_read_power.m G_read_power.kp G_read_power.b .nil (E := E) (passes_call (takes_of rfl rfl rfl rfl) (fun _ _ _ _ h => h)) (pa_cons (pv 0) (pa_cons (pv 1) pa_nil))) (pg_tup (by rfl) (pgs_cons (pg_name (i := 2) scRT.nd rfl (Or.inl rfl)) (pgs_cons (pg_name (i := 3) scRT.nd rfl (Or.inl rfl)) pgs_nil))))
    (pss_one (ps_ret (pe_tup (pa_cons (pe_tup (pa_cons pe_int (pa_cons pe_int pa_nil))) (pa_cons (pv 2) (pa_cons (pv 3) pa_nil)))))))
    pss_nil)
  (pss_cons (ps_asg (pe_call G_read_number.ok (hr.mono (by decide)) rfl G_read_number.m G_read_number.kp G_read_number.b .nil (E := E) (passes_call (takes_of rfl rfl rfl rfl) (fun _ _ _ _ h => h)) (pa_cons (pv 0) (pa_cons (pv 1) pa_nil))) (pg_tup (by rfl) (pgs_cons (pg_name (i := 4) scRT.nd rfl (Or.inl rfl)) (pgs_cons (pg_name (i := 3) scRT.nd rfl (Or.inl rfl)) pgs_nil))))
  (pss_cons (ps_set (i := 5) scRT.nd rfl (Or.inl rfl) (pe_call G_behind_spaces.ok (hr.mono (by decide)) rfl G_behind_spaces.m G_behind_spaces.kp G_behind_spaces.b .nil pass0 (pa_cons (pv 0) (pa_cons (pv 3) pa_nil))))
  (pss_cons (ps_if (pt_cmpR op_ne (pe_slice sl_str (pv 0) (po_some (pv 5)) (po_some (pe_op op_add (pv 5) pe_int))) pe_str (nomark _))
    (pss_one (ps_ret (pe_tup (pa_cons (pv 4) (pa_cons pe_int (pa_cons (pv 3) pa_nil))))))
    pss_nil)
  (pss_cons (ps_asg (pe_call G_read_power.ok (hr.mono (by decide)) rfl G_read_power.m G_read_power.kp G_read_power.b .nil (E := E) (passes_call (takes_of rfl rfl rfl rfl) (fun _ _ _ _ h => h)) (pa_cons (pv 0) (pa_cons (pe_call G_behind_spaces.ok (hr.mono (by decide)) rfl G_behind_spaces.m G_behind_spaces.kp G_behind_spaces.b .nil pass0 (pa_cons (pv 0) (pa_cons (pe_op op_add (pv 5) pe_int) pa_nil))) pa_nil))) (pg_tup (by rfl) (pgs_cons (pg_name (i := 2) scRT.nd rfl (Or.inl rfl)) (pgs_cons (pg_name (i := 3) scRT.nd rfl (Or.inl rfl)) pgs_nil))))
  (pss_one (ps_ret (pe_tup (pa_cons (pv 4) (pa_cons (pv 2) (pa_cons (pv 3) pa_nil))))))))))), ?_⟩
    refine ⟨_, rfl, _, rfl, _, rfl, _, rfl, _, _, rfl, rfl, _, rfl, ⟨Tx t, rfl, big, rfl, _, rfl, ?_⟩⟩
    rw [tx_sign t (m := a) rfl rfl, lit_x, sign_eq]
    by_cases hx : t[a]? = some 120
    · rw [decide_eq_true hx]
      refine iteT ?_
      refine ⟨_, rfl, _, rfl, t, _, a, rfl, rfl, hl, (fun z => absurd hx z), fun _ => ⟨r.to (mi_x hx), fun k e p H1 s1 e1 k0 k12 ae el ea => ?_⟩⟩
      refine ⟨p, _, rfl, SqT.of e1, rfl, _, _, rfl, _, _, rfl, rfl, ?_⟩
      refine ⟨(by show 2 ≤ sizeLine; decide), fun q1 nq1 => ⟨_, rfl, _, rfl, (by show 3 ≤ sizeLine; decide), fun p1 np1 => ?_⟩⟩
      refine q 1 1 k e p1 q1 _ (s1.trans ((same_upd nq1).trans (same_upd np1))) upd_same (same_upd np1 _ _ upd_same) ⟨ae, el, by decide, by decide, ?_, ?_⟩ k0 k12 ((mi_x hx).trans ea)
      · exact Nat.succ_le_of_lt (Nat.pow_pos (by decide))
      · exact Nat.succ_le_of_lt (Nat.pow_pos (by decide))
    · rw [decide_eq_false hx]
      refine iteF ?_
      refine ⟨_, rfl, _, rfl, t, _, a, rfl, rfl, hl, n32, hx, r, fun x y e p qa H1 s1 e1 e2 ok en => ?_⟩
      refine ⟨p, _, rfl, SqT.of e1, rfl, _, _, rfl, _, _, rfl, rfl, ?_⟩
      refine ⟨_, rfl, _, rfl, t, _, e, rfl, rfl, hl, ?_⟩
      refine ⟨_, rfl, _, rfl, _, rfl, _, rfl, _, _, rfl, rfl, _, rfl, ⟨Tx t, rfl, big, rfl, _, rfl, ?_⟩⟩
      rw [tx_sign t (m := beh t e) rfl rfl, lit_star, sign_eq]
      have el := ok.le
      have hb := beh_len el
      have hb2 := beh_le t e
      by_cases hs : t[beh t e]? = some 42
      · rw [decide_eq_true hs]
        refine iteF ?_
        have hls := (List.getElem?_eq_some_iff.mp hs).1
        have en2 : Cl t .mi a = Cl t .st (beh t (beh t e + 1)) := by
          rw [en]
          unfold num
          rw [if_pos hs, cl_beh (m := .st) rfl]
        refine ⟨_, rfl, _, rfl, _, rfl, _, _, rfl, rfl, t, _, beh t e + 1, rfl, rfl, hl, ?_⟩
        have hb3 := beh_len (t := t) (e := beh t e + 1) (by omega)
        have hb4 := beh_le t (beh t e + 1)
        refine ⟨t, _, beh t (beh t e + 1), rfl, rfl, hl, fun hx2 => ?_, fun hx2 => ⟨(r.same s1).to (en2.trans (st_x hx2)), fun k e' p2 H2 s2 e3 k0 k12 ae el ea => ?_⟩⟩
        · exact (r.same s1).at (en2.trans (st_no (beh_ne t _) hx2)) rfl
        · refine ⟨p2, _, rfl, SqT.of e3, rfl, _, _, rfl, _, _, rfl, rfl, ?_⟩
          refine ⟨_, rfl, _, rfl, _, rfl, (by show 3 ≤ sizeLine; decide), fun p1 np1 => ?_⟩
          have lt := ok.lt
          have up : (16 : Nat) ^ (e - a) ≤ 16 ^ (e' - a) := Nat.pow_le_pow_right (by decide) (by omega)
          exact q x y k e' p1 qa _ (s1.trans (s2.trans (same_upd np1))) upd_same (same_upd np1 _ _ (s2 _ _ e2)) ⟨by omega, el, ok.x0, ok.y0, Nat.le_trans ok.xb up, Nat.le_trans ok.yb up⟩ k0 k12 ((en2.trans (st_x hx2)).trans ea)
      · rw [decide_eq_false hs]
        refine iteT ?_
        refine ⟨_, rfl, _, rfl, (by show 3 ≤ sizeLine; decide), fun p1 np1 => ?_⟩
        refine q x y 0 e p1 qa _ (s1.trans (same_upd np1)) upd_same (same_upd np1 _ _ e2) ok (by decide) (by decide) ?_
        rw [en]
        unfold num
        rw [if_neg hs]
end

end Vf

set_option maxRecDepth 100000
set_option maxHeartbeats 8000000
namespace Vf
open PySem PySem.Spec PyProof.Rows L2
/-! ### terms -/
/-- a term in a row: its number and its power -/
def TermAt (H : Hp) (r : Addr) (w : Nat) : Prop := ∃ (n : Addr) (k x y : Int), H r = some (.tup [.ref n, .int k]) ∧ H n = some (.tup [.int x, .int y]) ∧ 0 ≤ k ∧ k ≤ 12 ∧ 0 < y ∧ 1 ≤ w ∧ x.natAbs ≤ 16 ^ w ∧ y.natAbs ≤ 16 ^ w
def Tms (H : Hp) (rs : List Addr) (ws : List Nat) : Prop := rs.length = ws.length ∧ ∀ (i : Nat) (r : Addr), rs[i]? = some r → ∃ w, ws[i]? = some w ∧ TermAt H r w
theorem TermAt.up {H H' : Hp} {r : Addr} {w : Nat} (h : TermAt H r w) (u : ∀ b xs, H b = some (.tup xs) → H' b = some (.tup xs)) : TermAt H' r w := by
  obtain ⟨n, k, x, y, h1, h2, h3⟩ := h
  exact ⟨n, k, x, y, u _ _ h1, u _ _ h2, h3⟩
theorem Tms.up {H H' : Hp} {rs : List Addr} {ws : List Nat} (h : Tms H rs ws) (u : ∀ b xs, H b = some (.tup xs) → H' b = some (.tup xs)) : Tms H' rs ws :=
  ⟨h.1, fun i r e => let ⟨w, h1, h2⟩ := h.2 i r e; ⟨w, h1, h2.up u⟩⟩
theorem Tms.snoc {H : Hp} {rs : List Addr} {ws : List Nat} {r : Addr} {w : Nat} (h : Tms H rs ws) (t : TermAt H r w) : Tms H (rs ++ [r]) (ws ++ [w]) := by
  refine ⟨by rw [List.length_append, List.length_append, h.1]; rfl, fun i r' e => ?_⟩
  by_cases hi : i < rs.length
  · rw [List.getElem?_append_left hi] at e
    obtain ⟨w', h1, h2⟩ := h.2 i r' e
    exact ⟨w', by rw [List.getElem?_append_left (by rw [← h.1]; exact hi)]; exact h1, h2⟩
  · rw [List.getElem?_append_right (by omega)] at e
    have : i - rs.length = 0 := by
      have := (List.getElem?_eq_some_iff.mp e).1
      simp at this
      omega
    rw [this] at e
    cases e
    refine ⟨w, ?_, t⟩
    rw [List.getElem?_append_right (by rw [← h.1]; omega), ← h.1, this]
    rfl
def lastN (t : List Nat) (e : Nat) : Nat := if e = t.length then 0 else e + 1
def spRTs (CT : Addr) : Sp := fun vs H Q E => ∃ (t : List Nat) (z : Int) (a : Nat), vs = [.str (Tx t), .int z] ∧ z = (a : Int) ∧ t.length ≤ 300 ∧ a ≤ t.length ∧ Rn CT H (Cl t .bg a) E ∧
  ∀ (e : Nat) (p l : Addr) (H' : Hp) (rs : List Addr) (ws : List Nat), Same H H' → H' p = some (.tup [.ref l, .int (e : Int)]) → H' l = some (.lst (rs.map V.ref)) → Tms H' rs ws → ws.sum ≤ t.length → e ≤ t.length → Cl t .bg a = lastN t e → Q (.ref p) H'
def spRPl (CT : Addr) : Sp := fun vs H Q E => ∃ (t : List Nat) (z : Int) (a : Nat), vs = [.str (Tx t), .int z] ∧ z = (a : Int) ∧ t.length ≤ 300 ∧ a ≤ t.length ∧ Rn CT H (Cl t .bg a) E ∧
  ∀ (e : Nat) (p x : Addr) (H' : Hp), Same H H' → H' p = some (.tup [.ref x, .int (e : Int)]) → e ≤ t.length → Cl t .bg a = lastN t e → Q (.ref p) H'
theorem sgn_fin {t : List Nat} {e : Nat} (he : e ≤ t.length) : (sgn t e = 0 ∧ fin t e = lastN t e) ∨ ((sgn t e = 1 ∨ sgn t e = -1) ∧ fin t e = Cl t .mi (e + 1) ∧ e < t.length) := by
  unfold sgn fin lastN
  cases h : t[e]? with
  | none =>
    have := List.getElem?_eq_none_iff.mp h
    rw [if_neg (by intro z; cases z), if_neg (by intro z; cases z), if_pos (by omega)]
    exact .inl ⟨rfl, rfl⟩
  | some c =>
    have hl := (List.getElem?_eq_some_iff.mp h).1
    by_cases h1 : c = 43
    · subst h1
      rw [if_pos rfl]
      exact .inr ⟨.inl rfl, rfl, hl⟩
    · rw [if_neg (fun z => h1 (Option.some.inj z))]
      by_cases h2 : c = 45
      · subst h2
        rw [if_pos rfl]
        exact .inr ⟨.inr rfl, rfl, hl⟩
      · rw [if_neg (fun z => h2 (Option.some.inj z)), if_neg (by omega)]
        refine .inl ⟨rfl, ?_⟩
        show (if isPm c then _ else _) = _
        rw [show isPm c = false from decide_eq_false (by omega)]
        rfl
theorem sz16 {x : Int} {w : Nat} (h : x.natAbs ≤ 16 ^ w) (hw : w ≤ 300) : Sz x :=
  Nat.lt_of_le_of_lt h (Nat.lt_of_le_of_lt (Nat.pow_le_pow_right (by decide) hw) (by decide +kernel))
theorem sz32 {x : Int} {w : Nat} (h : x.natAbs ≤ 32 ^ w) (hw : w ≤ 300) : Sz x :=
  Nat.lt_of_le_of_lt h (Nat.lt_of_le_of_lt (Nat.pow_le_pow_right (by decide) hw) (by decide +kernel))
section
variable {P : Program} {w : World} {K : PySem.W.Frag} {mg : Str → Option Value} {base : Heap} {CT CP CR CN : Addr}
abbrev sRTs : Stmt := topS 33
theorem scRTs : FnScope ["text", "at", "terms", "sign", "number", "power", "end"] ["text", "at"] (defScope sRTs) := ⟨rfl, rfl, rfl, by decide +kernel, rfl, by decide +kernel, by decide +kernel⟩
theorem ok_rts {f : Addr} {fd : FuncData} (F : Fun K "read_terms" "read_terms" sRTs f fd) (T : Bk mg) (G_behind_spaces : Df P w K mg base "behind_spaces" 1 ["text", "at"] spBeh) (G_read_term : Dx P w K mg base "read_term" 5 ["text", "at"] (spRT CT)) (G_sign_at : Df P w K mg base "sign_at" 1 ["text", "at"] spSg) (G_times : Dx P w K mg base "times" 4 ["one", "other"] (spTwo K CN (okLow gTimes))) :
    FnOk P w K mg base (L2.CX P w) 6 f fd ["text", "at"] (spRTs CT) := by
  refine F.okX scRTs (fun vs H Q E h => ?_) (fun cdv A outer s H vs Q E hr h => ?_)
  · obtain ⟨t, z, a, rfl, _⟩ := h
    rfl
  · obtain ⟨t, z, a, rfl, rfl, hl, ha, r, q⟩ := h
    have big : (Tx t).length ≤ sizeLine := by rw [tx_len, sizeLine_eq]; omega
    have hl' : t.length ≤ 1000 := by omega
    refine ⟨_, (pss_cons (ps_set (i := 2) scRTs.nd rfl (Or.inl rfl) (pe_lst pa_nil))
  (pss_cons (ps_set (i := 1) scRTs.nd rfl (Or.inl rfl) (pe_call G_behind_spaces.ok (hr.mono (by decide)) rfl G_behind_spaces.m G_behind_spaces.kp G_behind_spaces.b .nil pass0 (pa_cons (pv 0) (pa_cons (pv 1) pa_nil))))
  (pss_cons (ps_set (i := 3) scRTs.nd rfl (Or.inl rfl) pe_int)
  (C8.pss_cut (ps_if (pt_cmpR op_eq (pe_slice sl_str (pv 0) (po_some (pv 1)) (po_some (pe_op op_add (pv 1) pe_int))) pe_str (nomark _))
    (pss_cons (ps_set (i := 3) scRTs.nd rfl (Or.inl rfl) (pe_un un_neg pe_int))
    (pss_one (ps_set (i := 1) scRTs.nd rfl (Or.inl rfl) (pe_op op_add (pv 1) pe_int))))
    pss_nil)
  (C8.pss_cut (ps_while (passes_of rfl) (pt_cmpR op_ne (pv 3) pe_int (nomark _))
    (pss_cons (ps_asg (pe_call G_read_term.ok (hr.mono (by decide)) rfl G_read_term.m G_read_term.kp G_read_term.b .nil (E := E) (passes_call (takes_of rfl rfl rfl rfl) (fun _ _ _ _ h => h)) (pa_cons (pv 0) (pa_cons (pe_call G_behind_spaces.ok (hr.mono (by decide)) rfl G_behind_spaces.m G_behind_spaces.kp G_behind_spaces.b .nil pass0 (pa_cons (pv 0) (pa_cons (pv 1) pa_nil))) pa_nil))) (pg_tup (by rfl) (pgs_cons (pg_name (i := 4) scRTs.nd rfl (Or.inl rfl)) (pgs_cons (pg_name (i := 5) scRTs.nd rfl (Or.inl rfl)) (pgs_cons (pg_name (i := 6) scRTs.nd rfl (Or.inl rfl)) pgs_nil)))))
    (pss_cons (ps_expr (pe_bm PySem.F.plainAttrs_list PySem.F.slot_list_append PySem.F.type_list_append mt_append (pv 2) (pa_cons (pe_tup (pa_cons (pe_call G_times.ok (hr.mono (by decide)) rfl G_times.m G_times.kp G_times.b .nil (E := E) (passes_call (takes_of rfl rfl rfl rfl) (fun _ _ _ _ h => h)) (pa_cons (pv 4) (pa_cons (pv 3) pa_nil))) (pa_cons (pv 5) pa_nil))) pa_nil)))
    (pss_cons (ps_set (i := 6) scRTs.nd rfl (Or.inl rfl) (pe_call G_behind_spaces.ok (hr.mono (by decide)) rfl G_behind_spaces.m G_behind_spaces.kp G_behind_spaces.b .nil pass0 (pa_cons (pv 0) (pa_cons (pv 6) pa_nil))))
    (pss_cons (ps_set (i := 3) scRTs.nd rfl (Or.inl rfl) (pe_call G_sign_at.ok (hr.mono (by decide)) rfl G_sign_at.m G_sign_at.kp G_sign_at.b .nil pass0 (pa_cons (pv 0) (pa_cons (pv 6) pa_nil))))
    (pss_one (ps_set (i := 1) scRTs.nd rfl (Or.inl rfl) (pe_ifExp (pt_cmpR op_eq (pv 3) pe_int (nomark _)) (pv 6) (pe_op op_add (pv 6) pe_int)))))))))
  (pss_one (ps_ret (pe_tup (pa_cons (pv 2) (pa_cons (pv 1) pa_nil)))))))))), ?_⟩
    refine ⟨(by show 0 ≤ sizeLine; decide), fun l nl => ?_⟩
    have el : upd H l (HO.lst []) l = some (HO.lst []) := upd_same
    have s1 : Same H (upd H l (HO.lst [])) := same_upd nl
    generalize upd H l (HO.lst []) = H1 at el s1 ⊢
    refine ⟨_, rfl, _, rfl, t, _, a, rfl, rfl, hl', ?_⟩
    have hb := beh_len ha
    refine ⟨fun σ H2 => H2 = H1 ∧ ∃ (sg : Int) (b : Nat), σ = [some (.str (Tx t)), some (.int (b : Int)), some (.ref l), some (.int sg), none, none, none] ∧ (sg = 1 ∨ sg = -1) ∧ b ≤ t.length ∧ Cl t .bg a = Cl t .mi b, ?_, ?_⟩
    · refine ⟨_, rfl, _, rfl, _, rfl, _, rfl, _, _, rfl, rfl, _, rfl, ⟨Tx t, rfl, big, rfl, _, rfl, ?_⟩⟩
      rw [tx_sign t (m := beh t a) rfl rfl, lit_minus, sign_eq]
      have e0 : Cl t .bg a = Cl t .bg (beh t a) := cl_beh rfl a
      by_cases hm : t[beh t a]? = some 45
      · rw [decide_eq_true hm]
        refine iteT ?_
        have := (List.getElem?_eq_some_iff.mp hm).1
        refine ⟨_, rfl, _, rfl, _, _, rfl, rfl, ?_⟩
        exact ⟨rfl, -1, beh t a + 1, rfl, .inr rfl, by omega, e0.trans (bg_minus hm)⟩
      · rw [decide_eq_false hm]
        refine iteF ?_
        exact ⟨rfl, 1, beh t a, rfl, .inl rfl, hb, e0.trans (bg_mi (beh_ne t a) hm)⟩
    · rintro σ H2 ⟨rfl, sg, b, rfl, hsg, hbl, eb⟩
      refine ⟨fun σ H3 => ∃ (b : Nat) (sg : Int) (v4 v5 v6 : Option V) (rs : List Addr) (ws : List Nat), σ = [some (.str (Tx t)), some (.int (b : Int)), some (.ref l), some (.int sg), v4, v5, v6] ∧ Same H H3 ∧ H3 l = some (.lst (rs.map V.ref)) ∧ Tms H3 rs ws ∧ ws.sum ≤ b ∧ b ≤ t.length ∧ Cl t .bg a = lastN t b, ?_, ?_⟩
      · refine ⟨fun m σ H3 => ∃ (b : Nat) (sg : Int) (v4 v5 v6 : Option V) (rs : List Addr) (ws : List Nat), σ = [some (.str (Tx t)), some (.int (b : Int)), some (.ref l), some (.int sg), v4, v5, v6] ∧ Same H H3 ∧ H3 l = some (.lst (rs.map V.ref)) ∧ Tms H3 rs ws ∧ ws.sum ≤ b ∧ b ≤ t.length ∧
            ((sg = 0 ∧ m = 0 ∧ Cl t .bg a = lastN t b) ∨ ((sg = 1 ∨ sg = -1) ∧ m = t.length - b + 1 ∧ Cl t .bg a = Cl t .mi b)), ⟨_, b, sg, none, none, none, [], [], rfl, s1, el, ⟨rfl, fun i r e => by simp at e⟩, Nat.zero_le _, hbl, .inr ⟨hsg, rfl, eb⟩⟩, ?_⟩
        rintro m σ H3 ⟨b, sg, v4, v5, v6, rs, ws, rfl, s3, e3, tm, wsb, bl, z⟩
        rcases z with ⟨rfl, rfl, e0⟩ | ⟨hsg, rfl, e0⟩
        · refine ⟨_, rfl, rfl, _, rfl, ?_⟩
          refine iteF ?_
          exact ⟨b, 0, v4, v5, v6, rs, ws, rfl, s3, e3, tm, wsb, bl, e0⟩
        · refine ⟨_, rfl, (by rcases hsg with rfl | rfl <;> rfl), true, (by rcases hsg with rfl | rfl <;> rfl), ?_⟩
          refine iteT ?_
          refine ⟨fun σ H3 => ∃ (b' : Nat) (sg : Int) (v4 v5 v6 : Option V) (rs : List Addr) (ws : List Nat), σ = [some (.str (Tx t)), some (.int (b' : Int)), some (.ref l), some (.int sg), v4, v5, v6] ∧ Same H H3 ∧ H3 l = some (.lst (rs.map V.ref)) ∧ Tms H3 rs ws ∧ ws.sum ≤ b' ∧ b' ≤ t.length ∧ b < b' ∧
              ((sg = 0 ∧ Cl t .bg a = lastN t b') ∨ ((sg = 1 ∨ sg = -1) ∧ Cl t .bg a = Cl t .mi b')), ?_, ?_⟩
          · rintro σ' H' ⟨b', sg', w4, w5, w6, rs', ws', h1, h2, h3, h4, h5, h6, h7, h8⟩
            rcases h8 with ⟨h8, h9⟩ | ⟨h8, h9⟩
            · exact ⟨0, by omega, b', sg', w4, w5, w6, rs', ws', h1, h2, h3, h4, h5, h6, .inl ⟨h8, rfl, h9⟩⟩
            · exact ⟨_, by omega, b', sg', w4, w5, w6, rs', ws', h1, h2, h3, h4, h5, h6, .inr ⟨h8, rfl, h9⟩⟩
          · refine ⟨_, rfl, _, rfl, _, rfl, t, _, b, rfl, rfl, hl', ?_⟩
            have hb1 := beh_le t b
            have hb2 := beh_len bl
            have em : Cl t .bg a = Cl t .mi (beh t b) := e0.trans (cl_beh rfl b)
            refine ⟨t, _, beh t b, rfl, rfl, hl', beh_ne t b, (r.same s3).to em, fun x y k e p q1 H4 s4 e4 e5 ok k0 k12 ea => ?_⟩
            have lt := ok.lt
            have le := ok.le
            refine ⟨p, _, rfl, SqT.of e4, rfl, _, _, rfl, _, _, rfl, _, _, rfl, rfl, ?_⟩
            have e3' := s4 _ _ e3
            have dq : Dt K H4 (.ref q1) (.tuple [.int x, .int y]) := .tup (SqT.of e5) (.cons (.int _) (.cons (.int _) .nil))
            have pq : partsD (.tuple [.int x, .int y]) = some (x, y) := parts_pairD (p := (x, y)) ok.y0
            refine ⟨_, rfl, .inl ⟨rfl, _, SqL.of e3'⟩, _, rfl, _, rfl, .ref q1, .int sg, _, .int sg, rfl, dq, .int _, fun t1 b1 x1 c1 p1 p2 => ?_, (fun z => by rw [pq] at z; cases z), (fun _ z => by cases z)⟩
            rw [pq] at p1
            cases p1
            cases p2
            have ssg : Sz sg := by rcases hsg with rfl | rfl <;> (show _ < _; decide +kernel)
            refine ⟨sz16 ok.xb (by omega), sz16 ok.yb (by omega), ssg, (by show _ < _; decide +kernel), fun q2 H5 s5 e6 => ?_⟩
            refine ⟨_, rfl, (by show 2 ≤ sizeLine; decide), fun tt ntt => ?_⟩
            have et : upd H5 tt (HO.tup [V.ref q2, V.int k]) tt = some (HO.tup [V.ref q2, V.int k]) := upd_same
            have s6 : Same H5 (upd H5 tt (HO.tup [V.ref q2, V.int k])) := same_upd ntt
            generalize upd H5 tt (HO.tup [V.ref q2, V.int k]) = H6 at et s6 ⊢
            have s46 : Same H3 H6 := s4.trans (s5.trans s6)
            have e7 := s46 _ _ e3
            have rl : rs.length ≤ 300 := by
              have : rs.length ≤ ws.sum := by
                rw [tm.1]
                have go : ∀ l : List Nat, (∀ w ∈ l, 1 ≤ w) → l.length ≤ l.sum := by
                  intro l
                  induction l with
                  | nil => intro _; exact Nat.le_refl _
                  | cons w l ih =>
                    intro h
                    have := h w (List.mem_cons_self ..)
                    have := ih fun x hx => h x (List.mem_cons_of_mem _ hx)
                    rw [List.length_cons, List.sum_cons]
                    omega
                refine go ws fun w hw => ?_
                obtain ⟨i, hi⟩ := List.getElem?_of_mem hw
                have hli : i < rs.length := by rw [tm.1]; exact (List.getElem?_eq_some_iff.mp hi).1
                obtain ⟨w', h1, h2⟩ := tm.2 i _ (List.getElem?_eq_getElem hli)
                rw [hi] at h1
                cases h1
                obtain ⟨_, _, _, _, _, _, _, _, _, h3, _⟩ := h2
                exact h3
              omega
            refine ⟨l, _, _, rfl, rfl, e7, (by rw [List.length_map, sizeLine_eq]; omega), ?_⟩
            have up : ∀ b xs, H6 b = some (.tup xs) → upd H6 l (HO.lst (rs.map V.ref ++ [V.ref tt])) b = some (.tup xs) := fun b xs z => by
              rw [upd_ne (ne_of z e7 (by intro z; cases z))]
              exact z
            have e8 : upd H6 l (HO.lst (rs.map V.ref ++ [V.ref tt])) l = some (HO.lst ((rs ++ [tt]).map V.ref)) := by
              rw [upd_same, List.map_append]
              rfl
            have s8 : Same H (upd H6 l (HO.lst (rs.map V.ref ++ [V.ref tt]))) := fun b' o eb' => by
              rw [upd_ne (ne_of_none eb' nl)]
              exact s46 _ _ (s3 _ _ eb')
            have lows := low_size (t := x * sg) (b := y * 1) (by have := ok.y0; omega)
            have nx : (x * sg).natAbs = x.natAbs := by rw [Int.natAbs_mul]; rcases hsg with rfl | rfl <;> (show x.natAbs * 1 = _; omega)
            have ny : (y * 1).natAbs = y.natAbs := by rw [Int.mul_one]
            have tm8 : Tms (upd H6 l (HO.lst (rs.map V.ref ++ [V.ref tt]))) (rs ++ [tt]) (ws ++ [e - beh t b]) := by
              refine (tm.up fun b xs z => up _ _ (s46 _ _ z)).snoc ⟨q2, k, _, _, up _ _ et, up _ _ (s6 _ _ e6), k0, k12, (low_is (by have := ok.y0; show y * 1 ≠ 0; omega)).pos, by omega, ?_, ?_⟩
              · exact Nat.le_trans lows.1 (by rw [nx]; exact ok.xb)
              · exact Nat.le_trans lows.2 (by rw [ny]; exact ok.yb)
            generalize upd H6 l (HO.lst (rs.map V.ref ++ [V.ref tt])) = H8 at e8 s8 tm8 ⊢
            refine ⟨_, rfl, _, rfl, t, _, e, rfl, rfl, hl', ?_⟩
            refine ⟨_, rfl, _, rfl, t, _, beh t e, rfl, rfl, hl', ?_⟩
            have hb3 := beh_le t e
            have hb4 := beh_len le
            have ws8 : (ws ++ [e - beh t b]).sum ≤ e := by
              rw [List.sum_append]
              show ws.sum + (e - beh t b + 0) ≤ e
              omega
            have ef : Cl t .bg a = fin t (beh t e) := em.trans ea
            rcases sgn_fin hb4 with ⟨h1, h2⟩ | ⟨h1, h2, h3⟩
            · refine ⟨_, rfl, rfl, _, rfl, ?_⟩
              rw [h1, decide_eq_true rfl]
              refine iteT ?_
              exact ⟨_, rfl, beh t e, _, _, _, _, rs ++ [tt], _, rfl, s8, e8, tm8, by omega, hb4, by omega, .inl ⟨rfl, ef.trans h2⟩⟩
            · refine ⟨_, rfl, rfl, false, (by rcases h1 with h1 | h1 <;> rw [h1] <;> rfl), ?_⟩
              refine iteF ?_
              exact ⟨_, rfl, _, _, rfl, rfl, beh t e + 1, _, _, _, _, rs ++ [tt], _, rfl, s8, e8, tm8, by omega, by omega, by omega, .inr ⟨h1, ef.trans h2⟩⟩
      · rintro σ H3 ⟨b, sg, v4, v5, v6, rs, ws, rfl, s3, e3, tm, wsb, bl, e0⟩
        refine ⟨_, rfl, _, rfl, (by show 2 ≤ sizeLine; decide), fun p np => ?_⟩
        have s4 : Same H3 (upd H3 p (HO.tup [V.ref l, V.int (b : Int)])) := same_upd np
        exact q b p l _ rs ws (s3.trans s4) upd_same (s4 _ _ e3) (tm.up fun b xs z => s4 _ _ z) (by omega) bl e0
end

end Vf

set_option maxRecDepth 100000
set_option maxHeartbeats 8000000
namespace Vf
open PySem PySem.Spec PyProof.Rows L2
/-! ### polynomials read -/
theorem Tups.set {H : Hp} : ∀ {as : List Addr} {ps : List (Int × Int)} (i : Nat) {a : Addr} {p : Int × Int}, Tups H as ps → H a = some (.tup [.int p.1, .int p.2]) → Tups H (as.set i a) (ps.set i p)
  | _, _, _, _, _, .nil, _ => .nil
  | _, _, 0, _, _, .cons _ t, e => .cons e t
  | _, _, i + 1, _, _, .cons h t, e => .cons h (Tups.set i t e)
theorem rowD_pairs : ∀ {ps : List (Int × Int)}, (∀ p ∈ ps, 0 < p.2) → rowD (.list (ps.map pairD)) = some ps := by
  have go : ∀ {ps : List (Int × Int)}, (∀ p ∈ ps, 0 < p.2) → (ps.map pairD).mapM partsD = some ps := by
    intro ps
    induction ps with
    | nil => intro _; rw [List.map_nil, List.mapM_nil]; rfl
    | cons p ps ih =>
      intro h
      rw [List.map_cons, List.mapM_cons, parts_pairD (h p (List.mem_cons_self ..)), ih fun x hx => h x (List.mem_cons_of_mem _ hx)]
      rfl
  intro ps h
  exact go h
theorem mem_set {α : Type} {l : List α} {i : Nat} {a x : α} (h : x ∈ l.set i a) : x = a ∨ x ∈ l := by
  rcases List.mem_or_eq_of_mem_set h with h | h
  · exact .inr h
  · exact .inl h
theorem plus_size {t b x c W w : Nat} (ht : t ≤ 32 ^ W) (hb : b ≤ 32 ^ W) (hx : x ≤ 16 ^ w) (hc : c ≤ 16 ^ w) (hw : 1 ≤ w) : t * c + x * b ≤ 32 ^ (W + w) ∧ b * c ≤ 32 ^ (W + w) := by
  have h1 : t * c ≤ 32 ^ W * 16 ^ w := Nat.mul_le_mul ht hc
  have h2 : x * b ≤ 32 ^ W * 16 ^ w := by rw [Nat.mul_comm]; exact Nat.mul_le_mul hb hx
  have h3 : b * c ≤ 32 ^ W * 16 ^ w := Nat.mul_le_mul hb hc
  have h4 : 2 * 16 ^ w ≤ 32 ^ w := by
    have : (32 : Nat) ^ w = 2 ^ w * 16 ^ w := by rw [← Nat.mul_pow]
    rw [this]
    refine Nat.mul_le_mul_right _ ?_
    exact Nat.le_trans (by decide : 2 ≤ 2 ^ 1) (Nat.pow_le_pow_right (by decide) hw)
  have h5 : 2 * (32 ^ W * 16 ^ w) ≤ 32 ^ (W + w) := by
    rw [Nat.pow_add, ← Nat.mul_assoc, Nat.mul_comm 2, Nat.mul_assoc]
    exact Nat.mul_le_mul_left _ h4
  omega
def spPolyOf (K : PySem.W.Frag) (CT : Addr) : Sp := fun vs H Q E => ∃ (v : V) (d : PyData), vs = [v] ∧ Dt K H v d ∧
  (∀ t : List Nat, v = .str (Tx t) → t.length ≤ 300 ∧ Rn CT H (Cl t .bg 0) E ∧ (Cl t .bg 0 = 0 → ∀ (x : Addr) (H' : Hp), Same H H' → Q (.ref x) H')) ∧ ((∀ t : List Nat, v ≠ .str (Tx t)) → RaisesT CT H 0 E)
section
variable {P : Program} {w : World} {K : PySem.W.Frag} {mg : Str → Option Value} {base : Heap} {CT CP CR CN : Addr}
abbrev sRPl : Stmt := topS 43
theorem scRPl : FnScope ["text", "at", "terms", "end", "numbers", "number", "power"] ["text", "at"] (defScope sRPl) := ⟨rfl, rfl, rfl, by decide +kernel, rfl, by decide +kernel, by decide +kernel⟩
theorem ok_rpl {f : Addr} {fd : FuncData} (F : Fun K "read_poly" "read_poly" sRPl f fd) (T : Bk mg) (PM : PoM P w K mg base CP CR) (G_read_terms : Dx P w K mg base "read_terms" 6 ["text", "at"] (spRTs CT)) (G_plus : Dx P w K mg base "plus" 4 ["one", "other"] (spTwo K CN (okLow gPlus))) :
    FnOk P w K mg base (L2.CX P w) 7 f fd ["text", "at"] (spRPl CT) := by
  refine F.okX scRPl (fun vs H Q E h => ?_) (fun cdv A outer s H vs Q E hr h => ?_)
  · obtain ⟨t, z, a, rfl, _⟩ := h
    rfl
  · obtain ⟨t, z, a, rfl, rfl, hl, ha, r, q⟩ := h
    refine ⟨_, (pss_cons (ps_asg (pe_call G_read_terms.ok (hr.mono (by decide)) rfl G_read_terms.m G_read_terms.kp G_read_terms.b .nil (E := E) (passes_call (takes_of rfl rfl rfl rfl) (fun _ _ _ _ h => h)) (pa_cons (pv 0) (pa_cons (pv 1) pa_nil))) (pg_tup (by rfl) (pgs_cons (pg_name (i := 2) scRPl.nd rfl (Or.inl rfl)) (pgs_cons (pg_name (i := 3) scRPl.nd rfl (Or.inl rfl)) pgs_nil))))
  (pss_cons (ps_set (i := 4) scRPl.nd rfl (Or.inl rfl) (pe_op op_rep (pe_lst (pa_cons (pe_tup (pa_cons pe_int (pa_cons pe_int pa_nil))) pa_nil)) pe_int))
  (C8.pss_cut (ps_for (passes_of rfl) rfl (pi_list (pv 2)) (pg_tup rfl (pgs_cons (pg_name (i := 5) scRPl.nd rfl (Or.inl rfl)) (pgs_cons (pg_name (i := 6) scRPl.nd rfl (Or.inl rfl)) pgs_nil)))
    (pss_one (ps_asg (pe_call G_plus.ok (hr.mono (by decide)) rfl G_plus.m G_plus.kp G_plus.b .nil (E := E) (passes_call (takes_of rfl rfl rfl rfl) (fun _ _ _ _ h => h)) (pa_cons (pe_ix ix_list (pv 4) (pv 6) (fun _ _ => rfl)) (pa_cons (pv 5) pa_nil))) (pg_sub (pv 4) (pv 6) set_list))))
  (pss_one (ps_ret (pe_tup (pa_cons (pe_make PM.mkI PM.okI (hr.mono (by decide)) rfl PM.C.m PM.bI .nil (E := E) (passes_call (takes_of rfl rfl rfl rfl) (fun _ _ _ _ h => h)) (pa_cons (pv 4) pa_nil)) (pa_cons (pv 3) pa_nil)))))))), ?_⟩
    refine ⟨_, rfl, _, rfl, t, _, a, rfl, rfl, hl, ha, r, fun e p l H1 rs ws s1 e1 el tm wsl hel ea => ?_⟩
    refine ⟨p, _, rfl, SqT.of e1, rfl, _, _, rfl, _, _, rfl, rfl, ?_⟩
    refine ⟨(by show 2 ≤ sizeLine; decide), fun t0 nt0 => ?_⟩
    have et0 : upd H1 t0 (HO.tup [V.int 0, V.int 1]) t0 = some (HO.tup [V.int 0, V.int 1]) := upd_same
    have s2 : Same H1 (upd H1 t0 (HO.tup [V.int 0, V.int 1])) := same_upd nt0
    generalize upd H1 t0 (HO.tup [V.int 0, V.int 1]) = H2 at et0 s2 ⊢
    refine ⟨(by show 1 ≤ sizeLine; decide), fun l1 nl1 => ?_⟩
    have el1 : upd H2 l1 (HO.lst [V.ref t0]) l1 = some (HO.lst [V.ref t0]) := upd_same
    have s3 : Same H2 (upd H2 l1 (HO.lst [V.ref t0])) := same_upd nl1
    generalize upd H2 l1 (HO.lst [V.ref t0]) = H3 at el1 s3 ⊢
    refine ⟨l1, 13, _, rfl, rfl, el1, by decide, by decide, (by rw [sizeLine_eq]; show 1 * 13 ≤ 16777216; decide), fun nb nnb => ?_⟩
    have enb : upd H3 nb (HO.lst (List.replicate (13 : Int).toNat [V.ref t0]).flatten) nb = some (HO.lst ((List.replicate 13 t0).map V.ref)) := by rw [upd_same, flat_rep]; rfl
    have s4 : Same H3 (upd H3 nb (HO.lst (List.replicate (13 : Int).toNat [V.ref t0]).flatten)) := same_upd nnb
    generalize upd H3 nb (HO.lst (List.replicate (13 : Int).toNat [V.ref t0]).flatten) = H4 at enb s4 ⊢
    have s14 : Same H1 H4 := s2.trans (s3.trans s4)
    have nbH1 : H1 nb = none := s2.free (s3.free nnb)
    have nbl : l ≠ nb := ne_of_none el nbH1
    have tp4 : Tups H4 (List.replicate 13 t0) (List.replicate 13 (0, 1)) := Tups.rep (p := (0, 1)) (s4 _ _ (s3 _ _ et0)) 13
    refine ⟨fun σ H5 => ∃ (v5 v6 : Option V) (as : List Addr) (qs : List (Int × Int)), σ = [some (.str (Tx t)), some (.int (a : Int)), some (.ref l), some (.int (e : Int)), some (.ref nb), v5, v6] ∧ Same H1 H5 ∧ H5 nb = some (.lst (as.map V.ref)) ∧ as.length = 13 ∧ Tups H5 as qs ∧ ∀ p ∈ qs, 0 < p.2 ∧ p.1.natAbs ≤ 32 ^ t.length ∧ p.2.natAbs ≤ 32 ^ t.length, ?_, ?_⟩
    · refine ⟨_, rfl, l, rfl, ⟨_, SqL.of (s14 _ _ el)⟩, for_list (K := K) (a := l) (xs := rs.map V.ref) (fun i σ H5 => ∃ (v5 v6 : Option V) (as : List Addr) (qs : List (Int × Int)), σ = [some (.str (Tx t)), some (.int (a : Int)), some (.ref l), some (.int (e : Int)), some (.ref nb), v5, v6] ∧ Same H1 H5 ∧ H5 nb = some (.lst (as.map V.ref)) ∧ as.length = 13 ∧ Tups H5 as qs ∧ ∀ p ∈ qs, 0 < p.2 ∧ p.1.natAbs ≤ 32 ^ (ws.take i).sum ∧ p.2.natAbs ≤ 32 ^ (ws.take i).sum)
        ⟨none, none, _, _, rfl, s14, enb, List.length_replicate, tp4, fun p hp => ?_⟩ (fun i σ H5 _ ⟨v5, v6, as, qs, e0, s5, _⟩ => SqL.of (s5 _ _ el)) ?_ ?_⟩
      · rw [List.eq_of_mem_replicate hp]
        exact ⟨by decide, Nat.zero_le _, Nat.le_refl _⟩
      · rintro i y σ H5 hi ⟨v5, v6, as, qs, rfl, s5, e5, l13, tp5, sz⟩
        rw [List.getElem?_map] at hi
        cases hri : rs[i]? with
        | none => rw [hri] at hi; cases hi
        | some ri =>
          rw [hri] at hi
          cases hi
          obtain ⟨wi, hwi, n, k, x, c, h1, h2, k0, k12, c0, w1, xb, cb⟩ := tm.2 i ri hri
          have h1 := s5 _ _ h1
          have h2 := s5 _ _ h2
          refine ⟨ri, _, rfl, SqT.of h1, rfl, _, _, rfl, _, _, rfl, rfl, ?_⟩
          have hk : k.toNat < as.length := by omega
          have hak : as[k.toNat]? = some as[k.toNat] := List.getElem?_eq_getElem hk
          obtain ⟨qk, hqk, hgk⟩ := tp5.at hak
          have szk := sz qk (List.mem_of_getElem? hqk)
          generalize as[k.toNat] = ak at hak hgk
          have tk : (ws.take (i + 1)).sum = (ws.take i).sum + wi := by
            rw [List.take_succ, hwi, List.sum_append]
            show _ + (wi + 0) = _
            omega
          have tl : (ws.take (i + 1)).sum ≤ t.length := by
            refine Nat.le_trans ?_ wsl
            have := List.sum_append (l₁ := ws.take (i + 1)) (l₂ := ws.drop (i + 1))
            rw [List.take_append_drop] at this
            omega
          refine ⟨_, rfl, _, rfl, nb, _, k, .ref ak, rfl, rfl, SqL.of e5, at_of (j := k.toNat) (by omega) (by rw [List.getElem?_map, hak]; rfl), ?_⟩
          have d1 : Dt K H5 (.ref ak) (pairD qk) := .tup (SqT.of hgk) (.cons (.int _) (.cons (.int _) .nil))
          have d2 : Dt K H5 (.ref n) (pairD (x, c)) := .tup (SqT.of h2) (.cons (.int _) (.cons (.int _) .nil))
          have p1 := parts_pairD (p := qk) szk.1
          have p2 := parts_pairD (p := (x, c)) c0
          refine ⟨_, rfl, .ref ak, .ref n, _, _, rfl, d1, d2, fun t1 b1 x1 c1 g1 g2 => ?_, (fun z => by rw [p1] at z; cases z), (fun _ z => by rw [p2] at z; cases z)⟩
          rw [p1] at g1
          rw [p2] at g2
          cases g1
          cases g2
          have wl : (ws.take i).sum ≤ 300 := by omega
          have wl2 : wi ≤ 300 := by omega
          refine ⟨sz32 szk.2.1 wl, sz32 szk.2.2 wl, sz16 xb wl2, sz16 cb wl2, fun r6 H6 s6 e6 => ?_⟩
          have hix : ixN (as.map V.ref).length k = some k.toNat := by
            unfold ixN
            rw [if_pos k0, List.length_map, if_pos (by omega)]
          refine ⟨_, rfl, _, rfl, nb, _, _, k.toNat, rfl, rfl, s6 _ _ e5, hix, ?_⟩
          have b0 : b1 * c ≠ 0 := Int.ne_of_gt (Int.mul_pos szk.1 c0)
          have lows := low_size (t := t1 * c + x * b1) (b := b1 * c) b0
          obtain ⟨ps1, ps2⟩ := plus_size szk.2.1 szk.2.2 xb cb w1
          have up : ∀ (b : Addr) (p : Int × Int), H6 b = some (.tup [.int p.1, .int p.2]) → upd H6 nb (.lst ((as.map V.ref).set k.toNat (V.ref r6))) b = some (.tup [.int p.1, .int p.2]) := fun b p z => by
            rw [upd_ne (ne_of z (s6 _ _ e5) (by intro z; cases z))]
            exact z
          refine ⟨_, _, as.set k.toNat r6, qs.set k.toNat (low (t1 * c + x * b1) (b1 * c)), rfl, fun b o eb => ?_, ?_, by rw [List.length_set]; exact l13, ((tp5.same s6).set k.toNat e6).imp up, fun p hp => ?_⟩
          · rw [upd_ne (ne_of_none eb nbH1)]
            exact s6 _ _ (s5 _ _ eb)
          · rw [upd_same, List.map_set]
          · rw [tk]
            rcases mem_set hp with rfl | hp
            · refine ⟨(low_is b0).pos, Nat.le_trans lows.1 (Nat.le_trans (Nat.le_trans (Int.natAbs_add_le _ _) ?_) ps1), Nat.le_trans lows.2 (Nat.le_trans (Nat.le_of_eq (Int.natAbs_mul _ _)) ps2)⟩
              rw [Int.natAbs_mul, Int.natAbs_mul]
              exact Nat.le_refl _
            · obtain ⟨z1, z2, z3⟩ := sz p hp
              have m : (32 : Nat) ^ (ws.take i).sum ≤ 32 ^ ((ws.take i).sum + wi) := Nat.pow_le_pow_right (by decide) (by omega)
              exact ⟨z1, Nat.le_trans z2 m, Nat.le_trans z3 m⟩
      · rintro σ H5 ⟨v5, v6, as, qs, rfl, s5, e5, l13, tp5, sz⟩
        refine ⟨v5, v6, as, qs, rfl, s5, e5, l13, tp5, fun p hp => ?_⟩
        obtain ⟨z1, z2, z3⟩ := sz p hp
        have : (ws.take (rs.map V.ref).length).sum ≤ t.length := by
          rw [List.length_map, tm.1, List.take_length]
          exact wsl
        have m : (32 : Nat) ^ (ws.take (rs.map V.ref).length).sum ≤ 32 ^ t.length := Nat.pow_le_pow_right (by decide) this
        exact ⟨z1, Nat.le_trans z2 m, Nat.le_trans z3 m⟩
    · rintro σ H5 ⟨v5, v6, as, qs, rfl, s5, e5, l13, tp5, sz⟩
      refine ⟨_, rfl, ?_⟩
      refine poly_made (d := .list (qs.map pairD)) (.lst (SqL.of e5) tp5.dts) (fun ds h => by cases h; rw [List.length_map, ← tp5.len]; omega) (fun ps h => ?_) (fun z => by rw [rowD_pairs fun p hp => (sz p hp).1] at z; cases z)
      rw [rowD_pairs fun p hp => (sz p hp).1] at h
      cases h
      refine ⟨fun p hp => Nat.lt_of_le_of_lt (sz p hp).2.2 (Nat.lt_of_le_of_lt (Nat.pow_le_pow_right (by decide) hl) (by decide +kernel)), fun x H6 s6 nx hp => ?_⟩
      refine ⟨_, rfl, (by show 2 ≤ sizeLine; decide), fun pp npp => ?_⟩
      exact q e pp x _ (s1.trans (s5.trans (s6.trans (same_upd npp)))) upd_same hel ea
abbrev sPolyOf : Stmt := topS 42
theorem scPolyOf : FnScope ["text", "poly", "end"] ["text"] (defScope sPolyOf) := ⟨rfl, rfl, rfl, by decide +kernel, rfl, by decide +kernel, by decide +kernel⟩
theorem kit_str {K : PySem.W.Frag} (d : PyData) : PySem.W.kitOne K (.type (tyD d)) (.type "str") = some (match d with | .str _ => true | _ => false) := by
  cases d with
  | none => exact kit_ty (show kitB "NoneType" "str" = some false by decide +kernel)
  | bool _ => exact kit_ty (show kitB "bool" "str" = some false by decide +kernel)
  | int _ => exact kit_ty (show kitB "int" "str" = some false by decide +kernel)
  | str _ => exact kit_ty (show kitB "str" "str" = some true by decide +kernel)
  | list _ => exact kit_ty (show kitB "list" "str" = some false by decide +kernel)
  | tuple _ => exact kit_ty (show kitB "tuple" "str" = some false by decide +kernel)
  | dict _ => exact kit_ty (show kitB "dict" "str" = some false by decide +kernel)
theorem ok_polyof {f : Addr} {fd : FuncData} (F : Fun K "poly_of" "poly_of" sPolyOf f fd) (T : Bk mg) (N_BadText : Ex P w K mg base "BadText" CT ["column"]) (G_read_poly : Dx P w K mg base "read_poly" 7 ["text", "at"] (spRPl CT)) : FnOk P w K mg base (L2.CX P w) 8 f fd ["text"] (spPolyOf K CT) := by
  refine F.okX scPolyOf (fun vs H Q E h => ?_) (fun cdv A outer s H vs Q E hr h => ?_)
  · obtain ⟨v, d, rfl, _⟩ := h
    rfl
  · obtain ⟨v, d, rfl, hd, h1, h2⟩ := h
    refine ⟨_, (pss_cons (ps_if (pt_not (pt_val (pe_callB call_isi (by rfl) T.isinstance (by decide +kernel) (pa_cons (pv 0) (pa_cons (pe_bltn (v := V.ty "str") (by rfl) T.str (by decide +kernel) rfl) pa_nil)))))
    (pss_one (ps_raise rfl (takes_of rfl rfl rfl rfl) (pmk_oex N_BadText.ox N_BadText.iC N_BadText.tI N_BadText.ok (hr.mono (by decide)) N_BadText.b .nil pass0 (by rfl) N_BadText.m (pa_cons pe_int pa_nil))))
    pss_nil)
  (pss_cons (ps_asg (pe_call G_read_poly.ok (hr.mono (by decide)) rfl G_read_poly.m G_read_poly.kp G_read_poly.b .nil (E := E) (passes_call (takes_of rfl rfl rfl rfl) (fun _ _ _ _ h => h)) (pa_cons (pv 0) (pa_cons pe_int pa_nil))) (pg_tup (by rfl) (pgs_cons (pg_name (i := 1) scPolyOf.nd rfl (Or.inl rfl)) (pgs_cons (pg_name (i := 2) scPolyOf.nd rfl (Or.inl rfl)) pgs_nil))))
  (pss_cons (ps_if (pt_cmpR op_lt (pv 2) (pe_callB call_len_str (by rfl) T.len (by decide +kernel) (pa_cons (pv 0) pa_nil)) (nomark _))
    (pss_one (ps_raise rfl (takes_of rfl rfl rfl rfl) (pmk_oex N_BadText.ox N_BadText.iC N_BadText.tI N_BadText.ok (hr.mono (by decide)) N_BadText.b .nil pass0 (by rfl) N_BadText.m (pa_cons (pe_op op_add (pv 2) pe_int) pa_nil))))
    pss_nil)
  (pss_one (ps_ret (pv 1)))))), ?_⟩
    refine ⟨_, rfl, v, .ty "str", _, .type "str", _, rfl, .ty _, hd.ty, kit_str d, _, rfl, ?_⟩
    cases hd with
    | str x =>
      refine iteF ?_
      obtain ⟨t, rfl⟩ := tx_of x
      obtain ⟨hl, r, q⟩ := h1 t rfl
      refine ⟨_, rfl, t, _, 0, rfl, rfl, hl, Nat.zero_le _, r, fun e p x H1 s1 e1 el ea => ?_⟩
      refine ⟨p, _, rfl, SqT.of e1, rfl, _, _, rfl, _, _, rfl, rfl, ?_⟩
      refine ⟨_, rfl, _, rfl, Tx t, rfl, by rw [tx_len, sizeLine_eq]; omega, _, _, rfl, rfl, _, rfl, ?_⟩
      rw [tx_len]
      unfold lastN at ea
      by_cases h : e < t.length
      · rw [decide_eq_true (by omega)]
        refine iteT ?_
        rw [if_neg (by omega)] at ea
        refine ⟨_, rfl, _, _, rfl, rfl, (by show 1 ≤ 1000; decide), ?_⟩
        exact raise_end rfl fun dd H' s3 n e3 => (r.same s1).at ea rfl dd H' s3 n e3
      · rw [decide_eq_false (by omega)]
        refine iteF ?_
        rw [if_pos (by omega)] at ea
        exact ⟨_, rfl, q ea x H1 s1⟩
    | _ =>
      refine iteT ?_
      refine ⟨(by show 1 ≤ 1000; decide), ?_⟩
      exact raise_end rfl fun dd H' s3 n e3 => h2 (fun t z => by cases z) dd H' s3 n e3
end

end Vf

set_option maxRecDepth 100000
set_option maxHeartbeats 8000000
namespace Vf
open PySem PySem.Spec PyProof.Rows L2
/-! ### the law's reader -/
def mdN : Md → Str
  | .bg => "begin" | .mi => "minus" | .st => "star" | .gp => "gap" | .en => "end" | .sl => "slash" | .xx => "x" | .ht => "hat"
  | .tp _ => "top" | .un _ => "under" | .pw _ => "power"
def mdT : Md → List Nat
  | .tp s => s | .un s => s | .pw s => s | _ => []
def MdAt (H : Hp) (a : Addr) (m : Md) : Prop := H a = some (.tup [V.str (mdN m), V.str (Tx (mdT m))])
def spNext : Sp := fun vs H Q _ => ∃ (a : Addr) (c : Nat) (m : Md), vs = [.ref a, .str (Tx [c])] ∧ MdAt H a m ∧ (mdT m).length ≤ 1000 ∧ ∀ H', Same H H' → (nx m c = none → Q .non H') ∧ ∀ (m' : Md) (p : Addr), nx m c = some m' → MdAt H' p m' → Q (.ref p) H'
theorem sg_lit {s : Str} {c d : Nat} (hs : s = Tx [d]) : decide (V.str (Tx [c]) = V.str s) = decide (c = d) := by
  rw [hs, tx_eq]
  exact decide_eq_decide.mpr ⟨fun z => (List.cons.inj z).1, fun z => by rw [z]⟩
theorem in_lit {c : Nat} : decide (c ∈ ("0123456789" : Str).cps.toList) = decide (isD c = true) := by
  rw [lit_digits, tx_cps, in_digits]
  cases isD c <;> rfl
theorem lit_19 : ("123456789" : Str) = Tx [49, 50, 51, 52, 53, 54, 55, 56, 57] := by decide +kernel
theorem lit_012 : ("012" : Str) = Tx [48, 49, 50] := by decide +kernel
theorem lit_pm : ("+-" : Str) = Tx [43, 45] := by decide +kernel
theorem in_19 {c : Nat} : decide (c ∈ ("123456789" : Str).cps.toList) = decide (isD c = true ∧ c ≠ 48) := by
  rw [lit_19, tx_cps]
  unfold isD
  refine decide_eq_decide.mpr ?_
  simp only [List.mem_cons, List.not_mem_nil, or_false, decide_eq_true_eq]
  omega
theorem in_02 {c : Nat} : decide (c ∈ ("012" : Str).cps.toList) = decide (48 ≤ c ∧ c ≤ 50) := by
  rw [lit_012, tx_cps]
  refine decide_eq_decide.mpr ?_
  simp only [List.mem_cons, List.not_mem_nil, or_false]
  omega
theorem in_pm {c : Nat} : decide (c ∈ ("+-" : Str).cps.toList) = decide (c = 43 ∨ c = 45) := by
  rw [lit_pm, tx_cps]
  refine decide_eq_decide.mpr ?_
  simp only [List.mem_cons, List.not_mem_nil, or_false]
theorem tx_app (a b : List Nat) : Tx a ++ Tx b = Tx (a ++ b) := by
  show Str.mk (a.toArray ++ b.toArray) = Str.mk _
  simp
theorem lt40 {l : List Nat} : decide (((Tx l).length : Int) < 40) = decide (l.length < 40) := by
  rw [tx_len]
  exact decide_eq_decide.mpr (by omega)
section
variable {P : Program} {w : World} {K : PySem.W.Frag} {mg : Str → Option Value} {base : Heap} {CT CP CR CN : Addr}
abbrev sNext : Stmt := topS 49
theorem scNext : FnScope ["_law_state", "_law_sign", "_law_mode", "_law_told"] ["_law_state", "_law_sign"] (defScope sNext) := ⟨rfl, rfl, rfl, by decide +kernel, rfl, by decide +kernel, by decide +kernel⟩
theorem ok_next {f : Addr} {fd : FuncData} (F : Fun K "_law_next" "_law_next" sNext f fd) (T : Bk mg) : FnOk P w K mg base CX0 1 f fd ["_law_state", "_law_sign"] spNext := by
  refine F.ok scNext (fun vs H Q E h => ?_) (fun cdv A outer s0 H vs Q E hr h => ?_)
  · obtain ⟨a, c, m, rfl, _⟩ := h
    rfl
  · obtain ⟨a, c, m, rfl, hs, hl, q⟩ := h
    have hu := hu_of hr
    refine ⟨_, (pss_cons (ps_asg (pv 0) (pg_tup (by rfl) (pgs_cons (pg_name (i := 2) scNext.nd rfl (Or.inl rfl)) (pgs_cons (pg_name (i := 3) scNext.nd rfl (Or.inl rfl)) pgs_nil))))
  (pss_cons (ps_if (pt_cmpR op_eq (pv 1) pe_str (nomark _))
    (pss_cons (ps_if (pt_cmpR op_in_seq (pv 2) (pe_lst (pa_cons pe_str (pa_cons pe_str (pa_cons pe_str (pa_cons pe_str (pa_cons pe_str pa_nil)))))) (by rfl))
      (pss_one (ps_ret (pv 0)))
      pss_nil)
    (pss_one (ps_ret (pe_dget1 hu (pe_disp (pps_cons pe_str (pe_tup (pa_cons pe_str (pa_cons pe_str pa_nil))) (pps_cons pe_str (pe_tup (pa_cons pe_str (pa_cons pe_str pa_nil))) (pps_cons pe_str (pe_tup (pa_cons pe_str (pa_cons pe_str pa_nil))) (pps_cons pe_str (pe_tup (pa_cons pe_str (pa_cons pe_str pa_nil))) pps_nil)))) (by rfl) (by rfl) (fun z => by cases z) (by decide)) (pv 2) ⟨by rfl, by rfl, by rfl, by rfl⟩))))
    pss_nil)
  (pss_cons (ps_if (pt_cmpR op_in_seq (pv 2) (pe_lst (pa_cons pe_str (pa_cons pe_str pa_nil))) (by rfl))
    (pss_cons (ps_if (PW.pt (pw_and (pt_cmpR op_eq (pv 1) pe_str (nomark _)) (pw_and1 (pt_cmpR op_eq (pv 2) pe_str (nomark _)))))
      (pss_one (ps_ret (pe_tup (pa_cons pe_str (pa_cons pe_str pa_nil)))))
      pss_nil)
    (pss_one (ps_ret (pe_ifExp (pt_cmpR op_eq (pv 1) pe_str (nomark _)) (pe_tup (pa_cons pe_str (pa_cons pe_str pa_nil))) (pe_ifExp (pt_cmpR op_in_sign (pv 1) pe_str (by rfl)) (pe_tup (pa_cons pe_str (pa_cons (pv 1) pa_nil))) pe_non)))))
    pss_nil)
  (pss_cons (ps_if (pt_cmpR op_eq (pv 2) pe_str (nomark _))
    (pss_one (ps_ret (pe_ifExp (pt_cmpR op_eq (pv 1) pe_str (nomark _)) (pe_tup (pa_cons pe_str (pa_cons pe_str pa_nil))) pe_non)))
    pss_nil)
  (pss_cons (ps_if (PW.pt (pw_and (pt_cmpR op_in_seq (pv 2) (pe_lst (pa_cons pe_str (pa_cons pe_str pa_nil))) (by rfl)) (pw_and1 (pt_cmpR op_in_sign (pv 1) pe_str (by rfl)))))
    (pss_one (ps_ret (pe_ifExp (PW.pt (pw_and (pt_cmpR op_ne (pv 3) pe_str (nomark _)) (pw_and1 (pt_cmpR op_lt (pe_callB call_len_str (by rfl) T.len (by decide +kernel) (pa_cons (pv 3) pa_nil)) pe_int (nomark _))))) (pe_tup (pa_cons (pv 2) (pa_cons (pe_op op_add_str (pv 3) (pv 1)) pa_nil))) pe_non)))
    pss_nil)
  (pss_cons (ps_if (PW.pt (pw_and (pt_cmpR op_eq (pv 2) pe_str (nomark _)) (pw_and1 (pt_cmpR op_eq (pv 1) pe_str (nomark _)))))
    (pss_one (ps_ret (pe_tup (pa_cons pe_str (pa_cons pe_str pa_nil)))))
    pss_nil)
  (pss_cons (ps_if (pt_cmpR op_eq (pv 2) pe_str (nomark _))
    (pss_one (ps_ret (pe_ifExp (pt_cmpR op_in_sign (pv 1) pe_str (by rfl)) (pe_tup (pa_cons pe_str (pa_cons (pv 1) pa_nil))) pe_non)))
    pss_nil)
  (pss_cons (ps_if (PW.pt (pw_and (pt_cmpR op_eq (pv 2) pe_str (nomark _)) (pw_and1 (pt_cmpR op_eq (pv 1) pe_str (nomark _)))))
    (pss_one (ps_ret (pe_tup (pa_cons pe_str (pa_cons pe_str pa_nil)))))
    pss_nil)
  (pss_cons (ps_if (pt_cmpR op_eq (pv 2) pe_str (nomark _))
    (pss_one (ps_ret (pe_ifExp (pt_cmpR op_in_sign (pv 1) pe_str (by rfl)) (pe_tup (pa_cons pe_str (pa_cons (pv 1) pa_nil))) pe_non)))
    pss_nil)
  (pss_cons (ps_if (PW.pt (pw_and (pt_cmpR op_eq (pv 2) pe_str (nomark _)) (pw_and (pt_cmpR op_eq (pv 3) pe_str (nomark _)) (pw_and1 (pt_cmpR op_in_sign (pv 1) pe_str (by rfl))))))
    (pss_one (ps_ret (pe_tup (pa_cons pe_str (pa_cons (pe_op op_add_str (pv 3) (pv 1)) pa_nil)))))
    pss_nil)
  (pss_cons (ps_if (PW.pt (pw_and (pt_cmpR op_in_seq (pv 2) (pe_lst (pa_cons pe_str (pa_cons pe_str (pa_cons pe_str pa_nil)))) (by rfl)) (pw_and1 (pt_cmpR op_eq (pv 1) pe_str (nomark _)))))
    (pss_one (ps_ret (pe_tup (pa_cons pe_str (pa_cons pe_str pa_nil)))))
    pss_nil)
  (pss_cons (ps_if (PW.pt (pw_and (pt_cmpR op_in_seq (pv 2) (pe_lst (pa_cons pe_str (pa_cons pe_str (pa_cons pe_str (pa_cons pe_str (pa_cons pe_str (pa_cons pe_str pa_nil))))))) (by rfl)) (pw_and1 (pt_cmpR op_in_sign (pv 1) pe_str (by rfl)))))
    (pss_one (ps_ret (pe_tup (pa_cons pe_str (pa_cons pe_str pa_nil)))))
    pss_nil)
  (pss_one (ps_ret pe_non)))))))))))))), ?_⟩
    have z0 : Same H H := Same.refl _
    cases m with
    | bg =>
      have hs : H a = some (.tup [V.str "begin", V.str (Tx [])]) := hs
      refine ⟨_, rfl, a, _, rfl, SqT.of hs, rfl, _, _, rfl, _, _, rfl, rfl, ?_⟩
      refine ⟨_, rfl, rfl, _, rfl, ?_⟩
      rw [sg_lit lit_sp]
      by_cases h32 : c = 32
      · rw [decide_eq_true h32]
        refine iteT ?_
        refine ⟨_, rfl, (by show 5 ≤ sizeLine; decide), fun l1 nn1 => ?_⟩
        have e1 : upd H l1 (HO.lst [V.str "begin", V.str "minus", V.str "star", V.str "gap", V.str "end"]) l1 = some (HO.lst [V.str "begin", V.str "minus", V.str "star", V.str "gap", V.str "end"]) := upd_same
        have z1 : Same H (upd H l1 (HO.lst [V.str "begin", V.str "minus", V.str "star", V.str "gap", V.str "end"])) := z0.trans (same_upd nn1)
        have t1 : Same H (upd H l1 (HO.lst [V.str "begin", V.str "minus", V.str "star", V.str "gap", V.str "end"])) := same_upd nn1
        generalize upd H l1 (HO.lst [V.str "begin", V.str "minus", V.str "star", V.str "gap", V.str "end"]) = H1 at e1 z1 t1 ⊢
        refine ⟨l1, _, rfl, .inl (SqL.of e1), rfl, rfl, true, congrArg V.bl (by decide +kernel), ?_⟩
        refine iteT ?_
        refine ⟨_, rfl, ?_⟩
        exact (q _ z1).2 (Md.bg) a (by first | (exfalso; omega) | (simp [nx, nxN, isPm, h32]; done) | (exfalso; omega) | (subst h32; rfl)) (z1 _ _ hs)
      · rw [decide_eq_false h32]
        refine iteF ?_
        refine ⟨_, rfl, (by show 2 ≤ sizeLine; decide), fun l1 nn1 => ?_⟩
        have e1 : upd H l1 (HO.lst [V.str "begin", V.str "minus"]) l1 = some (HO.lst [V.str "begin", V.str "minus"]) := upd_same
        have z1 : Same H (upd H l1 (HO.lst [V.str "begin", V.str "minus"])) := z0.trans (same_upd nn1)
        have t1 : Same H (upd H l1 (HO.lst [V.str "begin", V.str "minus"])) := same_upd nn1
        generalize upd H l1 (HO.lst [V.str "begin", V.str "minus"]) = H1 at e1 z1 t1 ⊢
        refine ⟨l1, _, rfl, .inl (SqL.of e1), rfl, rfl, true, congrArg V.bl (by decide +kernel), ?_⟩
        refine iteT ?_
        refine ⟨_, rfl, rfl, _, rfl, ?_⟩
        rw [sg_lit lit_minus]
        by_cases h45 : c = 45
        · rw [decide_eq_true h45]
          refine iteT ?_
          refine ⟨_, rfl, rfl, true, congrArg V.bl (by decide +kernel), ?_⟩
          refine iteT ?_
          refine ⟨(by show 2 ≤ sizeLine; decide), fun p2 nn2 => ?_⟩
          have e2 : upd H1 p2 (HO.tup [V.str "minus", V.str ""]) p2 = some (HO.tup [V.str "minus", V.str ""]) := upd_same
          have z2 : Same H (upd H1 p2 (HO.tup [V.str "minus", V.str ""])) := z1.trans (same_upd nn2)
          have t2 : Same H1 (upd H1 p2 (HO.tup [V.str "minus", V.str ""])) := same_upd nn2
          generalize upd H1 p2 (HO.tup [V.str "minus", V.str ""]) = H2 at e2 z2 t2 ⊢
          exact (q _ z2).2 (Md.mi) p2 (by first | (exfalso; omega) | (simp [nx, nxN, isPm, h32, h45]; done) | (exfalso; omega) | (subst h32; rfl) | (subst h45; rfl)) e2
        · rw [decide_eq_false h45]
          refine iteF ?_
          refine iteF ?_
          refine ⟨_, rfl, rfl, _, rfl, ?_⟩
          rw [sg_lit lit_x]
          by_cases h120 : c = 120
          · rw [decide_eq_true h120]
            refine iteT ?_
            refine ⟨(by show 2 ≤ sizeLine; decide), fun p2 nn2 => ?_⟩
            have e2 : upd H1 p2 (HO.tup [V.str "x", V.str ""]) p2 = some (HO.tup [V.str "x", V.str ""]) := upd_same
            have z2 : Same H (upd H1 p2 (HO.tup [V.str "x", V.str ""])) := z1.trans (same_upd nn2)
            have t2 : Same H1 (upd H1 p2 (HO.tup [V.str "x", V.str ""])) := same_upd nn2
            generalize upd H1 p2 (HO.tup [V.str "x", V.str ""]) = H2 at e2 z2 t2 ⊢
            exact (q _ z2).2 (Md.xx) p2 (by first | (exfalso; omega) | (simp [nx, nxN, isPm, h32, h45, h120]; done) | (exfalso; omega) | (subst h32; rfl) | (subst h45; rfl) | (subst h120; rfl)) e2
          · rw [decide_eq_false h120]
            refine iteF ?_
            refine ⟨_, rfl, c, _, rfl, rfl, _, rfl, ?_⟩
            rw [in_lit]
            by_cases hd : isD c = true
            · rw [decide_eq_true hd]
              refine iteT ?_
              refine ⟨_, rfl, (by show 2 ≤ sizeLine; decide), fun p2 nn2 => ?_⟩
              have e2 : upd H1 p2 (HO.tup [V.str "top", V.str (Tx [c])]) p2 = some (HO.tup [V.str "top", V.str (Tx [c])]) := upd_same
              have z2 : Same H (upd H1 p2 (HO.tup [V.str "top", V.str (Tx [c])])) := z1.trans (same_upd nn2)
              have t2 : Same H1 (upd H1 p2 (HO.tup [V.str "top", V.str (Tx [c])])) := same_upd nn2
              generalize upd H1 p2 (HO.tup [V.str "top", V.str (Tx [c])]) = H2 at e2 z2 t2 ⊢
              exact (q _ z2).2 (Md.tp [c]) p2 (by first | (exfalso; omega) | (simp [nx, nxN, isPm, h32, h45, h120, hd]; done) | (exfalso; (try simp only [isD, decide_eq_true_eq] at hd); omega) | (subst h32; rfl) | (subst h45; rfl) | (subst h120; rfl)) e2
            · rw [decide_eq_false hd]
              refine iteF ?_
              exact (q _ z1).1 (by first | (exfalso; omega) | (simp [nx, nxN, isPm, h32, h45, h120, hd]; done) | (exfalso; (try simp only [isD, decide_eq_true_eq] at hd); omega) | (subst h32; rfl) | (subst h45; rfl) | (subst h120; rfl))
    | mi =>
      have hs : H a = some (.tup [V.str "minus", V.str (Tx [])]) := hs
      refine ⟨_, rfl, a, _, rfl, SqT.of hs, rfl, _, _, rfl, _, _, rfl, rfl, ?_⟩
      refine ⟨_, rfl, rfl, _, rfl, ?_⟩
      rw [sg_lit lit_sp]
      by_cases h32 : c = 32
      · rw [decide_eq_true h32]
        refine iteT ?_
        refine ⟨_, rfl, (by show 5 ≤ sizeLine; decide), fun l1 nn1 => ?_⟩
        have e1 : upd H l1 (HO.lst [V.str "begin", V.str "minus", V.str "star", V.str "gap", V.str "end"]) l1 = some (HO.lst [V.str "begin", V.str "minus", V.str "star", V.str "gap", V.str "end"]) := upd_same
        have z1 : Same H (upd H l1 (HO.lst [V.str "begin", V.str "minus", V.str "star", V.str "gap", V.str "end"])) := z0.trans (same_upd nn1)
        have t1 : Same H (upd H l1 (HO.lst [V.str "begin", V.str "minus", V.str "star", V.str "gap", V.str "end"])) := same_upd nn1
        generalize upd H l1 (HO.lst [V.str "begin", V.str "minus", V.str "star", V.str "gap", V.str "end"]) = H1 at e1 z1 t1 ⊢
        refine ⟨l1, _, rfl, .inl (SqL.of e1), rfl, rfl, true, congrArg V.bl (by decide +kernel), ?_⟩
        refine iteT ?_
        refine ⟨_, rfl, ?_⟩
        exact (q _ z1).2 (Md.mi) a (by first | (exfalso; omega) | (simp [nx, nxN, isPm, h32]; done) | (exfalso; omega) | (subst h32; rfl)) (z1 _ _ hs)
      · rw [decide_eq_false h32]
        refine iteF ?_
        refine ⟨_, rfl, (by show 2 ≤ sizeLine; decide), fun l1 nn1 => ?_⟩
        have e1 : upd H l1 (HO.lst [V.str "begin", V.str "minus"]) l1 = some (HO.lst [V.str "begin", V.str "minus"]) := upd_same
        have z1 : Same H (upd H l1 (HO.lst [V.str "begin", V.str "minus"])) := z0.trans (same_upd nn1)
        have t1 : Same H (upd H l1 (HO.lst [V.str "begin", V.str "minus"])) := same_upd nn1
        generalize upd H l1 (HO.lst [V.str "begin", V.str "minus"]) = H1 at e1 z1 t1 ⊢
        refine ⟨l1, _, rfl, .inl (SqL.of e1), rfl, rfl, true, congrArg V.bl (by decide +kernel), ?_⟩
        refine iteT ?_
        refine ⟨_, rfl, rfl, _, rfl, ?_⟩
        rw [sg_lit lit_minus]
        by_cases h45 : c = 45
        · rw [decide_eq_true h45]
          refine iteT ?_
          refine ⟨_, rfl, rfl, false, congrArg V.bl (by decide +kernel), ?_⟩
          refine iteF ?_
          refine ⟨_, rfl, rfl, _, rfl, ?_⟩
          rw [sg_lit lit_x]
          by_cases h120 : c = 120
          · rw [decide_eq_true h120]
            refine iteT ?_
            refine ⟨(by show 2 ≤ sizeLine; decide), fun p2 nn2 => ?_⟩
            have e2 : upd H1 p2 (HO.tup [V.str "x", V.str ""]) p2 = some (HO.tup [V.str "x", V.str ""]) := upd_same
            have z2 : Same H (upd H1 p2 (HO.tup [V.str "x", V.str ""])) := z1.trans (same_upd nn2)
            have t2 : Same H1 (upd H1 p2 (HO.tup [V.str "x", V.str ""])) := same_upd nn2
            generalize upd H1 p2 (HO.tup [V.str "x", V.str ""]) = H2 at e2 z2 t2 ⊢
            exact (q _ z2).2 (Md.xx) p2 (by first | (exfalso; omega) | (simp [nx, nxN, isPm, h32, h45, h120]; done) | (exfalso; omega) | (subst h32; rfl) | (subst h45; rfl) | (subst h120; rfl)) e2
          · rw [decide_eq_false h120]
            refine iteF ?_
            refine ⟨_, rfl, c, _, rfl, rfl, _, rfl, ?_⟩
            rw [in_lit]
            by_cases hd : isD c = true
            · rw [decide_eq_true hd]
              refine iteT ?_
              refine ⟨_, rfl, (by show 2 ≤ sizeLine; decide), fun p2 nn2 => ?_⟩
              have e2 : upd H1 p2 (HO.tup [V.str "top", V.str (Tx [c])]) p2 = some (HO.tup [V.str "top", V.str (Tx [c])]) := upd_same
              have z2 : Same H (upd H1 p2 (HO.tup [V.str "top", V.str (Tx [c])])) := z1.trans (same_upd nn2)
              have t2 : Same H1 (upd H1 p2 (HO.tup [V.str "top", V.str (Tx [c])])) := same_upd nn2
              generalize upd H1 p2 (HO.tup [V.str "top", V.str (Tx [c])]) = H2 at e2 z2 t2 ⊢
              exact (q _ z2).2 (Md.tp [c]) p2 (by first | (exfalso; omega) | (simp [nx, nxN, isPm, h32, h45, h120, hd]; done) | (exfalso; (try simp only [isD, decide_eq_true_eq] at hd); omega) | (subst h32; rfl) | (subst h45; rfl) | (subst h120; rfl)) e2
            · rw [decide_eq_false hd]
              refine iteF ?_
              exact (q _ z1).1 (by first | (exfalso; omega) | (simp [nx, nxN, isPm, h32, h45, h120, hd]; done) | (exfalso; (try simp only [isD, decide_eq_true_eq] at hd); omega) | (subst h32; rfl) | (subst h45; rfl) | (subst h120; rfl))
        · rw [decide_eq_false h45]
          refine iteF ?_
          refine iteF ?_
          refine ⟨_, rfl, rfl, _, rfl, ?_⟩
          rw [sg_lit lit_x]
          by_cases h120 : c = 120
          · rw [decide_eq_true h120]
            refine iteT ?_
            refine ⟨(by show 2 ≤ sizeLine; decide), fun p2 nn2 => ?_⟩
            have e2 : upd H1 p2 (HO.tup [V.str "x", V.str ""]) p2 = some (HO.tup [V.str "x", V.str ""]) := upd_same
            have z2 : Same H (upd H1 p2 (HO.tup [V.str "x", V.str ""])) := z1.trans (same_upd nn2)
            have t2 : Same H1 (upd H1 p2 (HO.tup [V.str "x", V.str ""])) := same_upd nn2
            generalize upd H1 p2 (HO.tup [V.str "x", V.str ""]) = H2 at e2 z2 t2 ⊢
            exact (q _ z2).2 (Md.xx) p2 (by first | (exfalso; omega) | (simp [nx, nxN, isPm, h32, h45, h120]; done) | (exfalso; omega) | (subst h32; rfl) | (subst h45; rfl) | (subst h120; rfl)) e2
          · rw [decide_eq_false h120]
            refine iteF ?_
            refine ⟨_, rfl, c, _, rfl, rfl, _, rfl, ?_⟩
            rw [in_lit]
            by_cases hd : isD c = true
            · rw [decide_eq_true hd]
              refine iteT ?_
              refine ⟨_, rfl, (by show 2 ≤ sizeLine; decide), fun p2 nn2 => ?_⟩
              have e2 : upd H1 p2 (HO.tup [V.str "top", V.str (Tx [c])]) p2 = some (HO.tup [V.str "top", V.str (Tx [c])]) := upd_same
              have z2 : Same H (upd H1 p2 (HO.tup [V.str "top", V.str (Tx [c])])) := z1.trans (same_upd nn2)
              have t2 : Same H1 (upd H1 p2 (HO.tup [V.str "top", V.str (Tx [c])])) := same_upd nn2
              generalize upd H1 p2 (HO.tup [V.str "top", V.str (Tx [c])]) = H2 at e2 z2 t2 ⊢
              exact (q _ z2).2 (Md.tp [c]) p2 (by first | (exfalso; omega) | (simp [nx, nxN, isPm, h32, h45, h120, hd]; done) | (exfalso; (try simp only [isD, decide_eq_true_eq] at hd); omega) | (subst h32; rfl) | (subst h45; rfl) | (subst h120; rfl)) e2
            · rw [decide_eq_false hd]
              refine iteF ?_
              exact (q _ z1).1 (by first | (exfalso; omega) | (simp [nx, nxN, isPm, h32, h45, h120, hd]; done) | (exfalso; (try simp only [isD, decide_eq_true_eq] at hd); omega) | (subst h32; rfl) | (subst h45; rfl) | (subst h120; rfl))
    | st =>
      have hs : H a = some (.tup [V.str "star", V.str (Tx [])]) := hs
      refine ⟨_, rfl, a, _, rfl, SqT.of hs, rfl, _, _, rfl, _, _, rfl, rfl, ?_⟩
      refine ⟨_, rfl, rfl, _, rfl, ?_⟩
      rw [sg_lit lit_sp]
      by_cases h32 : c = 32
      · rw [decide_eq_true h32]
        refine iteT ?_
        refine ⟨_, rfl, (by show 5 ≤ sizeLine; decide), fun l1 nn1 => ?_⟩
        have e1 : upd H l1 (HO.lst [V.str "begin", V.str "minus", V.str "star", V.str "gap", V.str "end"]) l1 = some (HO.lst [V.str "begin", V.str "minus", V.str "star", V.str "gap", V.str "end"]) := upd_same
        have z1 : Same H (upd H l1 (HO.lst [V.str "begin", V.str "minus", V.str "star", V.str "gap", V.str "end"])) := z0.trans (same_upd nn1)
        have t1 : Same H (upd H l1 (HO.lst [V.str "begin", V.str "minus", V.str "star", V.str "gap", V.str "end"])) := same_upd nn1
        generalize upd H l1 (HO.lst [V.str "begin", V.str "minus", V.str "star", V.str "gap", V.str "end"]) = H1 at e1 z1 t1 ⊢
        refine ⟨l1, _, rfl, .inl (SqL.of e1), rfl, rfl, true, congrArg V.bl (by decide +kernel), ?_⟩
        refine iteT ?_
        refine ⟨_, rfl, ?_⟩
        exact (q _ z1).2 (Md.st) a (by first | (exfalso; omega) | (simp [nx, nxN, isPm, h32]; done) | (exfalso; omega) | (subst h32; rfl)) (z1 _ _ hs)
      · rw [decide_eq_false h32]
        refine iteF ?_
        refine ⟨_, rfl, (by show 2 ≤ sizeLine; decide), fun l1 nn1 => ?_⟩
        have e1 : upd H l1 (HO.lst [V.str "begin", V.str "minus"]) l1 = some (HO.lst [V.str "begin", V.str "minus"]) := upd_same
        have z1 : Same H (upd H l1 (HO.lst [V.str "begin", V.str "minus"])) := z0.trans (same_upd nn1)
        have t1 : Same H (upd H l1 (HO.lst [V.str "begin", V.str "minus"])) := same_upd nn1
        generalize upd H l1 (HO.lst [V.str "begin", V.str "minus"]) = H1 at e1 z1 t1 ⊢
        refine ⟨l1, _, rfl, .inl (SqL.of e1), rfl, rfl, false, congrArg V.bl (by decide +kernel), ?_⟩
        refine iteF ?_
        refine ⟨_, rfl, rfl, true, congrArg V.bl (by decide +kernel), ?_⟩
        refine iteT ?_
        refine ⟨_, rfl, rfl, _, rfl, ?_⟩
        rw [sg_lit lit_x]
        by_cases h120 : c = 120
        · rw [decide_eq_true h120]
          refine iteT ?_
          refine ⟨(by show 2 ≤ sizeLine; decide), fun p2 nn2 => ?_⟩
          have e2 : upd H1 p2 (HO.tup [V.str "x", V.str ""]) p2 = some (HO.tup [V.str "x", V.str ""]) := upd_same
          have z2 : Same H (upd H1 p2 (HO.tup [V.str "x", V.str ""])) := z1.trans (same_upd nn2)
          have t2 : Same H1 (upd H1 p2 (HO.tup [V.str "x", V.str ""])) := same_upd nn2
          generalize upd H1 p2 (HO.tup [V.str "x", V.str ""]) = H2 at e2 z2 t2 ⊢
          exact (q _ z2).2 (Md.xx) p2 (by first | (exfalso; omega) | (simp [nx, nxN, isPm, h32, h120]; done) | (exfalso; omega) | (subst h32; rfl) | (subst h120; rfl)) e2
        · rw [decide_eq_false h120]
          refine iteF ?_
          exact (q _ z1).1 (by first | (exfalso; omega) | (simp [nx, nxN, isPm, h32, h120]; done) | (exfalso; omega) | (subst h32; rfl) | (subst h120; rfl))
    | gp =>
      have hs : H a = some (.tup [V.str "gap", V.str (Tx [])]) := hs
      refine ⟨_, rfl, a, _, rfl, SqT.of hs, rfl, _, _, rfl, _, _, rfl, rfl, ?_⟩
      refine ⟨_, rfl, rfl, _, rfl, ?_⟩
      rw [sg_lit lit_sp]
      by_cases h32 : c = 32
      · rw [decide_eq_true h32]
        refine iteT ?_
        refine ⟨_, rfl, (by show 5 ≤ sizeLine; decide), fun l1 nn1 => ?_⟩
        have e1 : upd H l1 (HO.lst [V.str "begin", V.str "minus", V.str "star", V.str "gap", V.str "end"]) l1 = some (HO.lst [V.str "begin", V.str "minus", V.str "star", V.str "gap", V.str "end"]) := upd_same
        have z1 : Same H (upd H l1 (HO.lst [V.str "begin", V.str "minus", V.str "star", V.str "gap", V.str "end"])) := z0.trans (same_upd nn1)
        have t1 : Same H (upd H l1 (HO.lst [V.str "begin", V.str "minus", V.str "star", V.str "gap", V.str "end"])) := same_upd nn1
        generalize upd H l1 (HO.lst [V.str "begin", V.str "minus", V.str "star", V.str "gap", V.str "end"]) = H1 at e1 z1 t1 ⊢
        refine ⟨l1, _, rfl, .inl (SqL.of e1), rfl, rfl, true, congrArg V.bl (by decide +kernel), ?_⟩
        refine iteT ?_
        refine ⟨_, rfl, ?_⟩
        exact (q _ z1).2 (Md.gp) a (by first | (exfalso; omega) | (simp [nx, nxN, isPm, h32]; done) | (exfalso; omega) | (subst h32; rfl)) (z1 _ _ hs)
      · rw [decide_eq_false h32]
        refine iteF ?_
        refine ⟨_, rfl, (by show 2 ≤ sizeLine; decide), fun l1 nn1 => ?_⟩
        have e1 : upd H l1 (HO.lst [V.str "begin", V.str "minus"]) l1 = some (HO.lst [V.str "begin", V.str "minus"]) := upd_same
        have z1 : Same H (upd H l1 (HO.lst [V.str "begin", V.str "minus"])) := z0.trans (same_upd nn1)
        have t1 : Same H (upd H l1 (HO.lst [V.str "begin", V.str "minus"])) := same_upd nn1
        generalize upd H l1 (HO.lst [V.str "begin", V.str "minus"]) = H1 at e1 z1 t1 ⊢
        refine ⟨l1, _, rfl, .inl (SqL.of e1), rfl, rfl, false, congrArg V.bl (by decide +kernel), ?_⟩
        refine iteF ?_
        refine ⟨_, rfl, rfl, false, congrArg V.bl (by decide +kernel), ?_⟩
        refine iteF ?_
        refine ⟨_, rfl, (by show 2 ≤ sizeLine; decide), fun l2 nn2 => ?_⟩
        have e2 : upd H1 l2 (HO.lst [V.str "top", V.str "under"]) l2 = some (HO.lst [V.str "top", V.str "under"]) := upd_same
        have z2 : Same H (upd H1 l2 (HO.lst [V.str "top", V.str "under"])) := z1.trans (same_upd nn2)
        have t2 : Same H1 (upd H1 l2 (HO.lst [V.str "top", V.str "under"])) := same_upd nn2
        generalize upd H1 l2 (HO.lst [V.str "top", V.str "under"]) = H2 at e2 z2 t2 ⊢
        refine ⟨l2, _, rfl, .inl (SqL.of e2), rfl, rfl, false, congrArg V.bl (by decide +kernel), ?_⟩
        refine iteF ?_
        refine iteF ?_
        refine ⟨_, rfl, rfl, false, congrArg V.bl (by decide +kernel), ?_⟩
        refine iteF ?_
        refine iteF ?_
        refine ⟨_, rfl, rfl, false, congrArg V.bl (by decide +kernel), ?_⟩
        refine iteF ?_
        refine ⟨_, rfl, rfl, false, congrArg V.bl (by decide +kernel), ?_⟩
        refine iteF ?_
        refine iteF ?_
        refine ⟨_, rfl, rfl, false, congrArg V.bl (by decide +kernel), ?_⟩
        refine iteF ?_
        refine ⟨_, rfl, rfl, false, congrArg V.bl (by decide +kernel), ?_⟩
        refine iteF ?_
        refine iteF ?_
        refine ⟨_, rfl, (by show 3 ≤ sizeLine; decide), fun l3 nn3 => ?_⟩
        have e3 : upd H2 l3 (HO.lst [V.str "top", V.str "under", V.str "gap"]) l3 = some (HO.lst [V.str "top", V.str "under", V.str "gap"]) := upd_same
        have z3 : Same H (upd H2 l3 (HO.lst [V.str "top", V.str "under", V.str "gap"])) := z2.trans (same_upd nn3)
        have t3 : Same H2 (upd H2 l3 (HO.lst [V.str "top", V.str "under", V.str "gap"])) := same_upd nn3
        generalize upd H2 l3 (HO.lst [V.str "top", V.str "under", V.str "gap"]) = H3 at e3 z3 t3 ⊢
        refine ⟨l3, _, rfl, .inl (SqL.of e3), rfl, rfl, true, congrArg V.bl (by decide +kernel), ?_⟩
        refine iteT ?_
        refine ⟨_, rfl, rfl, _, rfl, ?_⟩
        rw [sg_lit lit_star]
        by_cases h42 : c = 42
        · rw [decide_eq_true h42]
          refine iteT ?_
          refine ⟨(by show 2 ≤ sizeLine; decide), fun p4 nn4 => ?_⟩
          have e4 : upd H3 p4 (HO.tup [V.str "star", V.str ""]) p4 = some (HO.tup [V.str "star", V.str ""]) := upd_same
          have z4 : Same H (upd H3 p4 (HO.tup [V.str "star", V.str ""])) := z3.trans (same_upd nn4)
          have t4 : Same H3 (upd H3 p4 (HO.tup [V.str "star", V.str ""])) := same_upd nn4
          generalize upd H3 p4 (HO.tup [V.str "star", V.str ""]) = H4 at e4 z4 t4 ⊢
          exact (q _ z4).2 (Md.st) p4 (by first | (exfalso; omega) | (simp [nx, nxN, isPm, h32, h42]; done) | (exfalso; omega) | (subst h32; rfl) | (subst h42; rfl)) e4
        · rw [decide_eq_false h42]
          refine iteF ?_
          refine ⟨_, rfl, (by show 6 ≤ sizeLine; decide), fun l4 nn4 => ?_⟩
          have e4 : upd H3 l4 (HO.lst [V.str "top", V.str "under", V.str "gap", V.str "x", V.str "power", V.str "end"]) l4 = some (HO.lst [V.str "top", V.str "under", V.str "gap", V.str "x", V.str "power", V.str "end"]) := upd_same
          have z4 : Same H (upd H3 l4 (HO.lst [V.str "top", V.str "under", V.str "gap", V.str "x", V.str "power", V.str "end"])) := z3.trans (same_upd nn4)
          have t4 : Same H3 (upd H3 l4 (HO.lst [V.str "top", V.str "under", V.str "gap", V.str "x", V.str "power", V.str "end"])) := same_upd nn4
          generalize upd H3 l4 (HO.lst [V.str "top", V.str "under", V.str "gap", V.str "x", V.str "power", V.str "end"]) = H4 at e4 z4 t4 ⊢
          refine ⟨l4, _, rfl, .inl (SqL.of e4), rfl, rfl, true, congrArg V.bl (by decide +kernel), ?_⟩
          refine iteT ?_
          refine ⟨_, rfl, c, _, rfl, rfl, _, rfl, ?_⟩
          rw [in_pm]
          by_cases hp : c = 43 ∨ c = 45
          · rw [decide_eq_true hp]
            refine iteT ?_
            refine ⟨(by show 2 ≤ sizeLine; decide), fun p5 nn5 => ?_⟩
            have e5 : upd H4 p5 (HO.tup [V.str "minus", V.str ""]) p5 = some (HO.tup [V.str "minus", V.str ""]) := upd_same
            have z5 : Same H (upd H4 p5 (HO.tup [V.str "minus", V.str ""])) := z4.trans (same_upd nn5)
            have t5 : Same H4 (upd H4 p5 (HO.tup [V.str "minus", V.str ""])) := same_upd nn5
            generalize upd H4 p5 (HO.tup [V.str "minus", V.str ""]) = H5 at e5 z5 t5 ⊢
            exact (q _ z5).2 (Md.mi) p5 (by first | (exfalso; omega) | (simp [nx, nxN, isPm, h32, h42, hp]; done) | (exfalso; omega) | (subst h32; rfl) | (subst h42; rfl)) e5
          · rw [decide_eq_false hp]
            refine iteF ?_
            exact (q _ z4).1 (by first | (exfalso; omega) | (simp [nx, nxN, isPm, h32, h42, hp]; done) | (exfalso; omega) | (subst h32; rfl) | (subst h42; rfl))
    | en =>
      have hs : H a = some (.tup [V.str "end", V.str (Tx [])]) := hs
      refine ⟨_, rfl, a, _, rfl, SqT.of hs, rfl, _, _, rfl, _, _, rfl, rfl, ?_⟩
      refine ⟨_, rfl, rfl, _, rfl, ?_⟩
      rw [sg_lit lit_sp]
      by_cases h32 : c = 32
      · rw [decide_eq_true h32]
        refine iteT ?_
        refine ⟨_, rfl, (by show 5 ≤ sizeLine; decide), fun l1 nn1 => ?_⟩
        have e1 : upd H l1 (HO.lst [V.str "begin", V.str "minus", V.str "star", V.str "gap", V.str "end"]) l1 = some (HO.lst [V.str "begin", V.str "minus", V.str "star", V.str "gap", V.str "end"]) := upd_same
        have z1 : Same H (upd H l1 (HO.lst [V.str "begin", V.str "minus", V.str "star", V.str "gap", V.str "end"])) := z0.trans (same_upd nn1)
        have t1 : Same H (upd H l1 (HO.lst [V.str "begin", V.str "minus", V.str "star", V.str "gap", V.str "end"])) := same_upd nn1
        generalize upd H l1 (HO.lst [V.str "begin", V.str "minus", V.str "star", V.str "gap", V.str "end"]) = H1 at e1 z1 t1 ⊢
        refine ⟨l1, _, rfl, .inl (SqL.of e1), rfl, rfl, true, congrArg V.bl (by decide +kernel), ?_⟩
        refine iteT ?_
        refine ⟨_, rfl, ?_⟩
        exact (q _ z1).2 (Md.en) a (by first | (exfalso; omega) | (simp [nx, nxN, isPm, h32]; done) | (exfalso; omega) | (subst h32; rfl)) (z1 _ _ hs)
      · rw [decide_eq_false h32]
        refine iteF ?_
        refine ⟨_, rfl, (by show 2 ≤ sizeLine; decide), fun l1 nn1 => ?_⟩
        have e1 : upd H l1 (HO.lst [V.str "begin", V.str "minus"]) l1 = some (HO.lst [V.str "begin", V.str "minus"]) := upd_same
        have z1 : Same H (upd H l1 (HO.lst [V.str "begin", V.str "minus"])) := z0.trans (same_upd nn1)
        have t1 : Same H (upd H l1 (HO.lst [V.str "begin", V.str "minus"])) := same_upd nn1
        generalize upd H l1 (HO.lst [V.str "begin", V.str "minus"]) = H1 at e1 z1 t1 ⊢
        refine ⟨l1, _, rfl, .inl (SqL.of e1), rfl, rfl, false, congrArg V.bl (by decide +kernel), ?_⟩
        refine iteF ?_
        refine ⟨_, rfl, rfl, false, congrArg V.bl (by decide +kernel), ?_⟩
        refine iteF ?_
        refine ⟨_, rfl, (by show 2 ≤ sizeLine; decide), fun l2 nn2 => ?_⟩
        have e2 : upd H1 l2 (HO.lst [V.str "top", V.str "under"]) l2 = some (HO.lst [V.str "top", V.str "under"]) := upd_same
        have z2 : Same H (upd H1 l2 (HO.lst [V.str "top", V.str "under"])) := z1.trans (same_upd nn2)
        have t2 : Same H1 (upd H1 l2 (HO.lst [V.str "top", V.str "under"])) := same_upd nn2
        generalize upd H1 l2 (HO.lst [V.str "top", V.str "under"]) = H2 at e2 z2 t2 ⊢
        refine ⟨l2, _, rfl, .inl (SqL.of e2), rfl, rfl, false, congrArg V.bl (by decide +kernel), ?_⟩
        refine iteF ?_
        refine iteF ?_
        refine ⟨_, rfl, rfl, false, congrArg V.bl (by decide +kernel), ?_⟩
        refine iteF ?_
        refine iteF ?_
        refine ⟨_, rfl, rfl, false, congrArg V.bl (by decide +kernel), ?_⟩
        refine iteF ?_
        refine ⟨_, rfl, rfl, false, congrArg V.bl (by decide +kernel), ?_⟩
        refine iteF ?_
        refine iteF ?_
        refine ⟨_, rfl, rfl, false, congrArg V.bl (by decide +kernel), ?_⟩
        refine iteF ?_
        refine ⟨_, rfl, rfl, false, congrArg V.bl (by decide +kernel), ?_⟩
        refine iteF ?_
        refine iteF ?_
        refine ⟨_, rfl, (by show 3 ≤ sizeLine; decide), fun l3 nn3 => ?_⟩
        have e3 : upd H2 l3 (HO.lst [V.str "top", V.str "under", V.str "gap"]) l3 = some (HO.lst [V.str "top", V.str "under", V.str "gap"]) := upd_same
        have z3 : Same H (upd H2 l3 (HO.lst [V.str "top", V.str "under", V.str "gap"])) := z2.trans (same_upd nn3)
        have t3 : Same H2 (upd H2 l3 (HO.lst [V.str "top", V.str "under", V.str "gap"])) := same_upd nn3
        generalize upd H2 l3 (HO.lst [V.str "top", V.str "under", V.str "gap"]) = H3 at e3 z3 t3 ⊢
        refine ⟨l3, _, rfl, .inl (SqL.of e3), rfl, rfl, false, congrArg V.bl (by decide +kernel), ?_⟩
        refine iteF ?_
        refine iteF ?_
        refine ⟨_, rfl, (by show 6 ≤ sizeLine; decide), fun l4 nn4 => ?_⟩
        have e4 : upd H3 l4 (HO.lst [V.str "top", V.str "under", V.str "gap", V.str "x", V.str "power", V.str "end"]) l4 = some (HO.lst [V.str "top", V.str "under", V.str "gap", V.str "x", V.str "power", V.str "end"]) := upd_same
        have z4 : Same H (upd H3 l4 (HO.lst [V.str "top", V.str "under", V.str "gap", V.str "x", V.str "power", V.str "end"])) := z3.trans (same_upd nn4)
        have t4 : Same H3 (upd H3 l4 (HO.lst [V.str "top", V.str "under", V.str "gap", V.str "x", V.str "power", V.str "end"])) := same_upd nn4
        generalize upd H3 l4 (HO.lst [V.str "top", V.str "under", V.str "gap", V.str "x", V.str "power", V.str "end"]) = H4 at e4 z4 t4 ⊢
        refine ⟨l4, _, rfl, .inl (SqL.of e4), rfl, rfl, true, congrArg V.bl (by decide +kernel), ?_⟩
        refine iteT ?_
        refine ⟨_, rfl, c, _, rfl, rfl, _, rfl, ?_⟩
        rw [in_pm]
        by_cases hp : c = 43 ∨ c = 45
        · rw [decide_eq_true hp]
          refine iteT ?_
          refine ⟨(by show 2 ≤ sizeLine; decide), fun p5 nn5 => ?_⟩
          have e5 : upd H4 p5 (HO.tup [V.str "minus", V.str ""]) p5 = some (HO.tup [V.str "minus", V.str ""]) := upd_same
          have z5 : Same H (upd H4 p5 (HO.tup [V.str "minus", V.str ""])) := z4.trans (same_upd nn5)
          have t5 : Same H4 (upd H4 p5 (HO.tup [V.str "minus", V.str ""])) := same_upd nn5
          generalize upd H4 p5 (HO.tup [V.str "minus", V.str ""]) = H5 at e5 z5 t5 ⊢
          exact (q _ z5).2 (Md.mi) p5 (by first | (exfalso; omega) | (simp [nx, nxN, isPm, h32, hp]; done) | (exfalso; omega) | (subst h32; rfl)) e5
        · rw [decide_eq_false hp]
          refine iteF ?_
          exact (q _ z4).1 (by first | (exfalso; omega) | (simp [nx, nxN, isPm, h32, hp]; done) | (exfalso; omega) | (subst h32; rfl))
    | sl =>
      have hs : H a = some (.tup [V.str "slash", V.str (Tx [])]) := hs
      refine ⟨_, rfl, a, _, rfl, SqT.of hs, rfl, _, _, rfl, _, _, rfl, rfl, ?_⟩
      refine ⟨_, rfl, rfl, _, rfl, ?_⟩
      rw [sg_lit lit_sp]
      by_cases h32 : c = 32
      · rw [decide_eq_true h32]
        refine iteT ?_
        refine ⟨_, rfl, (by show 5 ≤ sizeLine; decide), fun l1 nn1 => ?_⟩
        have e1 : upd H l1 (HO.lst [V.str "begin", V.str "minus", V.str "star", V.str "gap", V.str "end"]) l1 = some (HO.lst [V.str "begin", V.str "minus", V.str "star", V.str "gap", V.str "end"]) := upd_same
        have z1 : Same H (upd H l1 (HO.lst [V.str "begin", V.str "minus", V.str "star", V.str "gap", V.str "end"])) := z0.trans (same_upd nn1)
        have t1 : Same H (upd H l1 (HO.lst [V.str "begin", V.str "minus", V.str "star", V.str "gap", V.str "end"])) := same_upd nn1
        generalize upd H l1 (HO.lst [V.str "begin", V.str "minus", V.str "star", V.str "gap", V.str "end"]) = H1 at e1 z1 t1 ⊢
        refine ⟨l1, _, rfl, .inl (SqL.of e1), rfl, rfl, false, congrArg V.bl (by decide +kernel), ?_⟩
        refine iteF ?_
        intro d2 nd2
        have e2 : upd H1 d2 (HO.dK []) d2 = some (HO.dK []) := upd_same
        have z2 : Same H (upd H1 d2 (HO.dK [])) := z1.trans (same_upd nd2)
        have nf2 : H d2 = none := z1.free nd2
        generalize upd H1 d2 (HO.dK []) = H2 at e2 z2 ⊢
        refine ⟨(by show 2 ≤ sizeLine; decide), fun p3 nn3 => ?_⟩
        have e3 : upd H2 p3 (HO.tup [V.str "gap", V.str ""]) p3 = some (HO.tup [V.str "gap", V.str ""]) := upd_same
        have z3 : Same H (upd H2 p3 (HO.tup [V.str "gap", V.str ""])) := z2.trans (same_upd nn3)
        have t3 : Same H2 (upd H2 p3 (HO.tup [V.str "gap", V.str ""])) := same_upd nn3
        generalize upd H2 p3 (HO.tup [V.str "gap", V.str ""]) = H3 at e3 z3 t3 ⊢
        refine ⟨(by show 2 ≤ sizeLine; decide), fun p4 nn4 => ?_⟩
        have e4 : upd H3 p4 (HO.tup [V.str "gap", V.str ""]) p4 = some (HO.tup [V.str "gap", V.str ""]) := upd_same
        have z4 : Same H (upd H3 p4 (HO.tup [V.str "gap", V.str ""])) := z3.trans (same_upd nn4)
        have t4 : Same H3 (upd H3 p4 (HO.tup [V.str "gap", V.str ""])) := same_upd nn4
        generalize upd H3 p4 (HO.tup [V.str "gap", V.str ""]) = H4 at e4 z4 t4 ⊢
        refine ⟨(by show 2 ≤ sizeLine; decide), fun p5 nn5 => ?_⟩
        have e5 : upd H4 p5 (HO.tup [V.str "end", V.str ""]) p5 = some (HO.tup [V.str "end", V.str ""]) := upd_same
        have z5 : Same H (upd H4 p5 (HO.tup [V.str "end", V.str ""])) := z4.trans (same_upd nn5)
        have t5 : Same H4 (upd H4 p5 (HO.tup [V.str "end", V.str ""])) := same_upd nn5
        generalize upd H4 p5 (HO.tup [V.str "end", V.str ""]) = H5 at e5 z5 t5 ⊢
        refine ⟨(by show 2 ≤ sizeLine; decide), fun p6 nn6 => ?_⟩
        have e6 : upd H5 p6 (HO.tup [V.str "end", V.str ""]) p6 = some (HO.tup [V.str "end", V.str ""]) := upd_same
        have z6 : Same H (upd H5 p6 (HO.tup [V.str "end", V.str ""])) := z5.trans (same_upd nn6)
        have t6 : Same H5 (upd H5 p6 (HO.tup [V.str "end", V.str ""])) := same_upd nn6
        generalize upd H5 p6 (HO.tup [V.str "end", V.str ""]) = H6 at e6 z6 t6 ⊢
        have e2 := t3 _ _ e2
        have e2 := t4 _ _ e2
        have e2 := t5 _ _ e2
        have e2 := t6 _ _ e2
        have e3 := t4 _ _ e3
        have e3 := t5 _ _ e3
        have e3 := t6 _ _ e3
        have e4 := t5 _ _ e4
        have e4 := t6 _ _ e4
        have e5 := t6 _ _ e5
        refine ⟨e2, [(.inr "top", .ref p3), (.inr "under", .ref p4), (.inr "x", .ref p5), (.inr "power", .ref p6)], rfl, (by show 4 ≤ 15; decide), ?_⟩
        rw [show mergeK [] ([(.inr "top", .ref p3), (.inr "under", .ref p4), (.inr "x", .ref p5), (.inr "power", .ref p6)] : List (Key × V)) = [(.inr "top", .ref p3), (.inr "under", .ref p4), (.inr "x", .ref p5), (.inr "power", .ref p6)] from by kernel_rfl]
        have ed : upd H6 d2 (HO.dK [(.inr "top", .ref p3), (.inr "under", .ref p4), (.inr "x", .ref p5), (.inr "power", .ref p6)]) d2 = some (HO.dK [(.inr "top", .ref p3), (.inr "under", .ref p4), (.inr "x", .ref p5), (.inr "power", .ref p6)]) := upd_same
        have zd : Same H (upd H6 d2 (HO.dK [(.inr "top", .ref p3), (.inr "under", .ref p4), (.inr "x", .ref p5), (.inr "power", .ref p6)])) := fun b o e => by rw [upd_ne (ne_of_none e nf2)]; exact z6 _ _ e
        have e3 : upd H6 d2 (HO.dK [(.inr "top", .ref p3), (.inr "under", .ref p4), (.inr "x", .ref p5), (.inr "power", .ref p6)]) p3 = _ := (upd_ne (ne_of e3 e2 (by intro z; cases z))).trans e3
        have e4 : upd H6 d2 (HO.dK [(.inr "top", .ref p3), (.inr "under", .ref p4), (.inr "x", .ref p5), (.inr "power", .ref p6)]) p4 = _ := (upd_ne (ne_of e4 e2 (by intro z; cases z))).trans e4
        have e5 : upd H6 d2 (HO.dK [(.inr "top", .ref p3), (.inr "under", .ref p4), (.inr "x", .ref p5), (.inr "power", .ref p6)]) p5 = _ := (upd_ne (ne_of e5 e2 (by intro z; cases z))).trans e5
        have e6 : upd H6 d2 (HO.dK [(.inr "top", .ref p3), (.inr "under", .ref p4), (.inr "x", .ref p5), (.inr "power", .ref p6)]) p6 = _ := (upd_ne (ne_of e6 e2 (by intro z; cases z))).trans e6
        generalize upd H6 d2 (HO.dK [(.inr "top", .ref p3), (.inr "under", .ref p4), (.inr "x", .ref p5), (.inr "power", .ref p6)]) = Hd at ed zd e3 e4 e5 e6 ⊢
        refine ⟨d2, rfl, .inl ⟨_, .inl ed⟩, _, rfl, _, DGet.k (k := .inr "slash") ed, ?_⟩
        rw [show valV ([(.inr "top", .ref p3), (.inr "under", .ref p4), (.inr "x", .ref p5), (.inr "power", .ref p6)] : List (Key × V)) (.inr "slash") = none from by kernel_rfl]
        exact (q _ zd).1 (by first | (exfalso; omega) | (simp [nx, nxN, isPm, h32]; done) | (exfalso; omega) | (subst h32; rfl))
      · rw [decide_eq_false h32]
        refine iteF ?_
        refine ⟨_, rfl, (by show 2 ≤ sizeLine; decide), fun l1 nn1 => ?_⟩
        have e1 : upd H l1 (HO.lst [V.str "begin", V.str "minus"]) l1 = some (HO.lst [V.str "begin", V.str "minus"]) := upd_same
        have z1 : Same H (upd H l1 (HO.lst [V.str "begin", V.str "minus"])) := z0.trans (same_upd nn1)
        have t1 : Same H (upd H l1 (HO.lst [V.str "begin", V.str "minus"])) := same_upd nn1
        generalize upd H l1 (HO.lst [V.str "begin", V.str "minus"]) = H1 at e1 z1 t1 ⊢
        refine ⟨l1, _, rfl, .inl (SqL.of e1), rfl, rfl, false, congrArg V.bl (by decide +kernel), ?_⟩
        refine iteF ?_
        refine ⟨_, rfl, rfl, false, congrArg V.bl (by decide +kernel), ?_⟩
        refine iteF ?_
        refine ⟨_, rfl, (by show 2 ≤ sizeLine; decide), fun l2 nn2 => ?_⟩
        have e2 : upd H1 l2 (HO.lst [V.str "top", V.str "under"]) l2 = some (HO.lst [V.str "top", V.str "under"]) := upd_same
        have z2 : Same H (upd H1 l2 (HO.lst [V.str "top", V.str "under"])) := z1.trans (same_upd nn2)
        have t2 : Same H1 (upd H1 l2 (HO.lst [V.str "top", V.str "under"])) := same_upd nn2
        generalize upd H1 l2 (HO.lst [V.str "top", V.str "under"]) = H2 at e2 z2 t2 ⊢
        refine ⟨l2, _, rfl, .inl (SqL.of e2), rfl, rfl, false, congrArg V.bl (by decide +kernel), ?_⟩
        refine iteF ?_
        refine iteF ?_
        refine ⟨_, rfl, rfl, false, congrArg V.bl (by decide +kernel), ?_⟩
        refine iteF ?_
        refine iteF ?_
        refine ⟨_, rfl, rfl, true, congrArg V.bl (by decide +kernel), ?_⟩
        refine iteT ?_
        refine ⟨_, rfl, c, _, rfl, rfl, _, rfl, ?_⟩
        rw [in_19]
        by_cases h19 : isD c = true ∧ c ≠ 48
        · rw [decide_eq_true h19]
          refine iteT ?_
          refine ⟨_, rfl, (by show 2 ≤ sizeLine; decide), fun p3 nn3 => ?_⟩
          have e3 : upd H2 p3 (HO.tup [V.str "under", V.str (Tx [c])]) p3 = some (HO.tup [V.str "under", V.str (Tx [c])]) := upd_same
          have z3 : Same H (upd H2 p3 (HO.tup [V.str "under", V.str (Tx [c])])) := z2.trans (same_upd nn3)
          have t3 : Same H2 (upd H2 p3 (HO.tup [V.str "under", V.str (Tx [c])])) := same_upd nn3
          generalize upd H2 p3 (HO.tup [V.str "under", V.str (Tx [c])]) = H3 at e3 z3 t3 ⊢
          exact (q _ z3).2 (Md.un [c]) p3 (by first | (exfalso; omega) | (simp [nx, nxN, isPm, h32, h19]; done) | (exfalso; (try simp only [isD, decide_eq_true_eq] at h19); omega) | (subst h32; rfl)) e3
        · rw [decide_eq_false h19]
          refine iteF ?_
          exact (q _ z2).1 (by first | (exfalso; omega) | (simp [nx, nxN, isPm, h32, h19]; done) | (exfalso; (try simp only [isD, decide_eq_true_eq] at h19); omega) | (subst h32; rfl))
    | xx =>
      have hs : H a = some (.tup [V.str "x", V.str (Tx [])]) := hs
      refine ⟨_, rfl, a, _, rfl, SqT.of hs, rfl, _, _, rfl, _, _, rfl, rfl, ?_⟩
      refine ⟨_, rfl, rfl, _, rfl, ?_⟩
      rw [sg_lit lit_sp]
      by_cases h32 : c = 32
      · rw [decide_eq_true h32]
        refine iteT ?_
        refine ⟨_, rfl, (by show 5 ≤ sizeLine; decide), fun l1 nn1 => ?_⟩
        have e1 : upd H l1 (HO.lst [V.str "begin", V.str "minus", V.str "star", V.str "gap", V.str "end"]) l1 = some (HO.lst [V.str "begin", V.str "minus", V.str "star", V.str "gap", V.str "end"]) := upd_same
        have z1 : Same H (upd H l1 (HO.lst [V.str "begin", V.str "minus", V.str "star", V.str "gap", V.str "end"])) := z0.trans (same_upd nn1)
        have t1 : Same H (upd H l1 (HO.lst [V.str "begin", V.str "minus", V.str "star", V.str "gap", V.str "end"])) := same_upd nn1
        generalize upd H l1 (HO.lst [V.str "begin", V.str "minus", V.str "star", V.str "gap", V.str "end"]) = H1 at e1 z1 t1 ⊢
        refine ⟨l1, _, rfl, .inl (SqL.of e1), rfl, rfl, false, congrArg V.bl (by decide +kernel), ?_⟩
        refine iteF ?_
        intro d2 nd2
        have e2 : upd H1 d2 (HO.dK []) d2 = some (HO.dK []) := upd_same
        have z2 : Same H (upd H1 d2 (HO.dK [])) := z1.trans (same_upd nd2)
        have nf2 : H d2 = none := z1.free nd2
        generalize upd H1 d2 (HO.dK []) = H2 at e2 z2 ⊢
        refine ⟨(by show 2 ≤ sizeLine; decide), fun p3 nn3 => ?_⟩
        have e3 : upd H2 p3 (HO.tup [V.str "gap", V.str ""]) p3 = some (HO.tup [V.str "gap", V.str ""]) := upd_same
        have z3 : Same H (upd H2 p3 (HO.tup [V.str "gap", V.str ""])) := z2.trans (same_upd nn3)
        have t3 : Same H2 (upd H2 p3 (HO.tup [V.str "gap", V.str ""])) := same_upd nn3
        generalize upd H2 p3 (HO.tup [V.str "gap", V.str ""]) = H3 at e3 z3 t3 ⊢
        refine ⟨(by show 2 ≤ sizeLine; decide), fun p4 nn4 => ?_⟩
        have e4 : upd H3 p4 (HO.tup [V.str "gap", V.str ""]) p4 = some (HO.tup [V.str "gap", V.str ""]) := upd_same
        have z4 : Same H (upd H3 p4 (HO.tup [V.str "gap", V.str ""])) := z3.trans (same_upd nn4)
        have t4 : Same H3 (upd H3 p4 (HO.tup [V.str "gap", V.str ""])) := same_upd nn4
        generalize upd H3 p4 (HO.tup [V.str "gap", V.str ""]) = H4 at e4 z4 t4 ⊢
        refine ⟨(by show 2 ≤ sizeLine; decide), fun p5 nn5 => ?_⟩
        have e5 : upd H4 p5 (HO.tup [V.str "end", V.str ""]) p5 = some (HO.tup [V.str "end", V.str ""]) := upd_same
        have z5 : Same H (upd H4 p5 (HO.tup [V.str "end", V.str ""])) := z4.trans (same_upd nn5)
        have t5 : Same H4 (upd H4 p5 (HO.tup [V.str "end", V.str ""])) := same_upd nn5
        generalize upd H4 p5 (HO.tup [V.str "end", V.str ""]) = H5 at e5 z5 t5 ⊢
        refine ⟨(by show 2 ≤ sizeLine; decide), fun p6 nn6 => ?_⟩
        have e6 : upd H5 p6 (HO.tup [V.str "end", V.str ""]) p6 = some (HO.tup [V.str "end", V.str ""]) := upd_same
        have z6 : Same H (upd H5 p6 (HO.tup [V.str "end", V.str ""])) := z5.trans (same_upd nn6)
        have t6 : Same H5 (upd H5 p6 (HO.tup [V.str "end", V.str ""])) := same_upd nn6
        generalize upd H5 p6 (HO.tup [V.str "end", V.str ""]) = H6 at e6 z6 t6 ⊢
        have e2 := t3 _ _ e2
        have e2 := t4 _ _ e2
        have e2 := t5 _ _ e2
        have e2 := t6 _ _ e2
        have e3 := t4 _ _ e3
        have e3 := t5 _ _ e3
        have e3 := t6 _ _ e3
        have e4 := t5 _ _ e4
        have e4 := t6 _ _ e4
        have e5 := t6 _ _ e5
        refine ⟨e2, [(.inr "top", .ref p3), (.inr "under", .ref p4), (.inr "x", .ref p5), (.inr "power", .ref p6)], rfl, (by show 4 ≤ 15; decide), ?_⟩
        rw [show mergeK [] ([(.inr "top", .ref p3), (.inr "under", .ref p4), (.inr "x", .ref p5), (.inr "power", .ref p6)] : List (Key × V)) = [(.inr "top", .ref p3), (.inr "under", .ref p4), (.inr "x", .ref p5), (.inr "power", .ref p6)] from by kernel_rfl]
        have ed : upd H6 d2 (HO.dK [(.inr "top", .ref p3), (.inr "under", .ref p4), (.inr "x", .ref p5), (.inr "power", .ref p6)]) d2 = some (HO.dK [(.inr "top", .ref p3), (.inr "under", .ref p4), (.inr "x", .ref p5), (.inr "power", .ref p6)]) := upd_same
        have zd : Same H (upd H6 d2 (HO.dK [(.inr "top", .ref p3), (.inr "under", .ref p4), (.inr "x", .ref p5), (.inr "power", .ref p6)])) := fun b o e => by rw [upd_ne (ne_of_none e nf2)]; exact z6 _ _ e
        have e3 : upd H6 d2 (HO.dK [(.inr "top", .ref p3), (.inr "under", .ref p4), (.inr "x", .ref p5), (.inr "power", .ref p6)]) p3 = _ := (upd_ne (ne_of e3 e2 (by intro z; cases z))).trans e3
        have e4 : upd H6 d2 (HO.dK [(.inr "top", .ref p3), (.inr "under", .ref p4), (.inr "x", .ref p5), (.inr "power", .ref p6)]) p4 = _ := (upd_ne (ne_of e4 e2 (by intro z; cases z))).trans e4
        have e5 : upd H6 d2 (HO.dK [(.inr "top", .ref p3), (.inr "under", .ref p4), (.inr "x", .ref p5), (.inr "power", .ref p6)]) p5 = _ := (upd_ne (ne_of e5 e2 (by intro z; cases z))).trans e5
        have e6 : upd H6 d2 (HO.dK [(.inr "top", .ref p3), (.inr "under", .ref p4), (.inr "x", .ref p5), (.inr "power", .ref p6)]) p6 = _ := (upd_ne (ne_of e6 e2 (by intro z; cases z))).trans e6
        generalize upd H6 d2 (HO.dK [(.inr "top", .ref p3), (.inr "under", .ref p4), (.inr "x", .ref p5), (.inr "power", .ref p6)]) = Hd at ed zd e3 e4 e5 e6 ⊢
        refine ⟨d2, rfl, .inl ⟨_, .inl ed⟩, _, rfl, _, DGet.k (k := .inr "x") ed, ?_⟩
        rw [show valV ([(.inr "top", .ref p3), (.inr "under", .ref p4), (.inr "x", .ref p5), (.inr "power", .ref p6)] : List (Key × V)) (.inr "x") = some (V.ref p5) from by kernel_rfl]
        exact (q _ zd).2 (Md.en) p5 (by first | (exfalso; omega) | (simp [nx, nxN, isPm, h32]; done) | (exfalso; omega) | (subst h32; rfl)) e5
      · rw [decide_eq_false h32]
        refine iteF ?_
        refine ⟨_, rfl, (by show 2 ≤ sizeLine; decide), fun l1 nn1 => ?_⟩
        have e1 : upd H l1 (HO.lst [V.str "begin", V.str "minus"]) l1 = some (HO.lst [V.str "begin", V.str "minus"]) := upd_same
        have z1 : Same H (upd H l1 (HO.lst [V.str "begin", V.str "minus"])) := z0.trans (same_upd nn1)
        have t1 : Same H (upd H l1 (HO.lst [V.str "begin", V.str "minus"])) := same_upd nn1
        generalize upd H l1 (HO.lst [V.str "begin", V.str "minus"]) = H1 at e1 z1 t1 ⊢
        refine ⟨l1, _, rfl, .inl (SqL.of e1), rfl, rfl, false, congrArg V.bl (by decide +kernel), ?_⟩
        refine iteF ?_
        refine ⟨_, rfl, rfl, false, congrArg V.bl (by decide +kernel), ?_⟩
        refine iteF ?_
        refine ⟨_, rfl, (by show 2 ≤ sizeLine; decide), fun l2 nn2 => ?_⟩
        have e2 : upd H1 l2 (HO.lst [V.str "top", V.str "under"]) l2 = some (HO.lst [V.str "top", V.str "under"]) := upd_same
        have z2 : Same H (upd H1 l2 (HO.lst [V.str "top", V.str "under"])) := z1.trans (same_upd nn2)
        have t2 : Same H1 (upd H1 l2 (HO.lst [V.str "top", V.str "under"])) := same_upd nn2
        generalize upd H1 l2 (HO.lst [V.str "top", V.str "under"]) = H2 at e2 z2 t2 ⊢
        refine ⟨l2, _, rfl, .inl (SqL.of e2), rfl, rfl, false, congrArg V.bl (by decide +kernel), ?_⟩
        refine iteF ?_
        refine iteF ?_
        refine ⟨_, rfl, rfl, false, congrArg V.bl (by decide +kernel), ?_⟩
        refine iteF ?_
        refine iteF ?_
        refine ⟨_, rfl, rfl, false, congrArg V.bl (by decide +kernel), ?_⟩
        refine iteF ?_
        refine ⟨_, rfl, rfl, true, congrArg V.bl (by decide +kernel), ?_⟩
        refine iteT ?_
        refine ⟨_, rfl, rfl, _, rfl, ?_⟩
        rw [sg_lit lit_hat]
        by_cases h94 : c = 94
        · rw [decide_eq_true h94]
          refine iteT ?_
          refine ⟨(by show 2 ≤ sizeLine; decide), fun p3 nn3 => ?_⟩
          have e3 : upd H2 p3 (HO.tup [V.str "hat", V.str ""]) p3 = some (HO.tup [V.str "hat", V.str ""]) := upd_same
          have z3 : Same H (upd H2 p3 (HO.tup [V.str "hat", V.str ""])) := z2.trans (same_upd nn3)
          have t3 : Same H2 (upd H2 p3 (HO.tup [V.str "hat", V.str ""])) := same_upd nn3
          generalize upd H2 p3 (HO.tup [V.str "hat", V.str ""]) = H3 at e3 z3 t3 ⊢
          exact (q _ z3).2 (Md.ht) p3 (by first | (exfalso; omega) | (simp [nx, nxN, isPm, h32, h94]; done) | (exfalso; omega) | (subst h32; rfl) | (subst h94; rfl)) e3
        · rw [decide_eq_false h94]
          refine iteF ?_
          refine ⟨_, rfl, rfl, false, congrArg V.bl (by decide +kernel), ?_⟩
          refine iteF ?_
          refine ⟨_, rfl, rfl, false, congrArg V.bl (by decide +kernel), ?_⟩
          refine iteF ?_
          refine iteF ?_
          refine ⟨_, rfl, (by show 3 ≤ sizeLine; decide), fun l3 nn3 => ?_⟩
          have e3 : upd H2 l3 (HO.lst [V.str "top", V.str "under", V.str "gap"]) l3 = some (HO.lst [V.str "top", V.str "under", V.str "gap"]) := upd_same
          have z3 : Same H (upd H2 l3 (HO.lst [V.str "top", V.str "under", V.str "gap"])) := z2.trans (same_upd nn3)
          have t3 : Same H2 (upd H2 l3 (HO.lst [V.str "top", V.str "under", V.str "gap"])) := same_upd nn3
          generalize upd H2 l3 (HO.lst [V.str "top", V.str "under", V.str "gap"]) = H3 at e3 z3 t3 ⊢
          refine ⟨l3, _, rfl, .inl (SqL.of e3), rfl, rfl, false, congrArg V.bl (by decide +kernel), ?_⟩
          refine iteF ?_
          refine iteF ?_
          refine ⟨_, rfl, (by show 6 ≤ sizeLine; decide), fun l4 nn4 => ?_⟩
          have e4 : upd H3 l4 (HO.lst [V.str "top", V.str "under", V.str "gap", V.str "x", V.str "power", V.str "end"]) l4 = some (HO.lst [V.str "top", V.str "under", V.str "gap", V.str "x", V.str "power", V.str "end"]) := upd_same
          have z4 : Same H (upd H3 l4 (HO.lst [V.str "top", V.str "under", V.str "gap", V.str "x", V.str "power", V.str "end"])) := z3.trans (same_upd nn4)
          have t4 : Same H3 (upd H3 l4 (HO.lst [V.str "top", V.str "under", V.str "gap", V.str "x", V.str "power", V.str "end"])) := same_upd nn4
          generalize upd H3 l4 (HO.lst [V.str "top", V.str "under", V.str "gap", V.str "x", V.str "power", V.str "end"]) = H4 at e4 z4 t4 ⊢
          refine ⟨l4, _, rfl, .inl (SqL.of e4), rfl, rfl, true, congrArg V.bl (by decide +kernel), ?_⟩
          refine iteT ?_
          refine ⟨_, rfl, c, _, rfl, rfl, _, rfl, ?_⟩
          rw [in_pm]
          by_cases hp : c = 43 ∨ c = 45
          · rw [decide_eq_true hp]
            refine iteT ?_
            refine ⟨(by show 2 ≤ sizeLine; decide), fun p5 nn5 => ?_⟩
            have e5 : upd H4 p5 (HO.tup [V.str "minus", V.str ""]) p5 = some (HO.tup [V.str "minus", V.str ""]) := upd_same
            have z5 : Same H (upd H4 p5 (HO.tup [V.str "minus", V.str ""])) := z4.trans (same_upd nn5)
            have t5 : Same H4 (upd H4 p5 (HO.tup [V.str "minus", V.str ""])) := same_upd nn5
            generalize upd H4 p5 (HO.tup [V.str "minus", V.str ""]) = H5 at e5 z5 t5 ⊢
            exact (q _ z5).2 (Md.mi) p5 (by first | (exfalso; omega) | (simp [nx, nxN, isPm, h32, h94, hp]; done) | (exfalso; omega) | (subst h32; rfl) | (subst h94; rfl)) e5
          · rw [decide_eq_false hp]
            refine iteF ?_
            exact (q _ z4).1 (by first | (exfalso; omega) | (simp [nx, nxN, isPm, h32, h94, hp]; done) | (exfalso; omega) | (subst h32; rfl) | (subst h94; rfl))
    | ht =>
      have hs : H a = some (.tup [V.str "hat", V.str (Tx [])]) := hs
      refine ⟨_, rfl, a, _, rfl, SqT.of hs, rfl, _, _, rfl, _, _, rfl, rfl, ?_⟩
      refine ⟨_, rfl, rfl, _, rfl, ?_⟩
      rw [sg_lit lit_sp]
      by_cases h32 : c = 32
      · rw [decide_eq_true h32]
        refine iteT ?_
        refine ⟨_, rfl, (by show 5 ≤ sizeLine; decide), fun l1 nn1 => ?_⟩
        have e1 : upd H l1 (HO.lst [V.str "begin", V.str "minus", V.str "star", V.str "gap", V.str "end"]) l1 = some (HO.lst [V.str "begin", V.str "minus", V.str "star", V.str "gap", V.str "end"]) := upd_same
        have z1 : Same H (upd H l1 (HO.lst [V.str "begin", V.str "minus", V.str "star", V.str "gap", V.str "end"])) := z0.trans (same_upd nn1)
        have t1 : Same H (upd H l1 (HO.lst [V.str "begin", V.str "minus", V.str "star", V.str "gap", V.str "end"])) := same_upd nn1
        generalize upd H l1 (HO.lst [V.str "begin", V.str "minus", V.str "star", V.str "gap", V.str "end"]) = H1 at e1 z1 t1 ⊢
        refine ⟨l1, _, rfl, .inl (SqL.of e1), rfl, rfl, false, congrArg V.bl (by decide +kernel), ?_⟩
        refine iteF ?_
        intro d2 nd2
        have e2 : upd H1 d2 (HO.dK []) d2 = some (HO.dK []) := upd_same
        have z2 : Same H (upd H1 d2 (HO.dK [])) := z1.trans (same_upd nd2)
        have nf2 : H d2 = none := z1.free nd2
        generalize upd H1 d2 (HO.dK []) = H2 at e2 z2 ⊢
        refine ⟨(by show 2 ≤ sizeLine; decide), fun p3 nn3 => ?_⟩
        have e3 : upd H2 p3 (HO.tup [V.str "gap", V.str ""]) p3 = some (HO.tup [V.str "gap", V.str ""]) := upd_same
        have z3 : Same H (upd H2 p3 (HO.tup [V.str "gap", V.str ""])) := z2.trans (same_upd nn3)
        have t3 : Same H2 (upd H2 p3 (HO.tup [V.str "gap", V.str ""])) := same_upd nn3
        generalize upd H2 p3 (HO.tup [V.str "gap", V.str ""]) = H3 at e3 z3 t3 ⊢
        refine ⟨(by show 2 ≤ sizeLine; decide), fun p4 nn4 => ?_⟩
        have e4 : upd H3 p4 (HO.tup [V.str "gap", V.str ""]) p4 = some (HO.tup [V.str "gap", V.str ""]) := upd_same
        have z4 : Same H (upd H3 p4 (HO.tup [V.str "gap", V.str ""])) := z3.trans (same_upd nn4)
        have t4 : Same H3 (upd H3 p4 (HO.tup [V.str "gap", V.str ""])) := same_upd nn4
        generalize upd H3 p4 (HO.tup [V.str "gap", V.str ""]) = H4 at e4 z4 t4 ⊢
        refine ⟨(by show 2 ≤ sizeLine; decide), fun p5 nn5 => ?_⟩
        have e5 : upd H4 p5 (HO.tup [V.str "end", V.str ""]) p5 = some (HO.tup [V.str "end", V.str ""]) := upd_same
        have z5 : Same H (upd H4 p5 (HO.tup [V.str "end", V.str ""])) := z4.trans (same_upd nn5)
        have t5 : Same H4 (upd H4 p5 (HO.tup [V.str "end", V.str ""])) := same_upd nn5
        generalize upd H4 p5 (HO.tup [V.str "end", V.str ""]) = H5 at e5 z5 t5 ⊢
        refine ⟨(by show 2 ≤ sizeLine; decide), fun p6 nn6 => ?_⟩
        have e6 : upd H5 p6 (HO.tup [V.str "end", V.str ""]) p6 = some (HO.tup [V.str "end", V.str ""]) := upd_same
        have z6 : Same H (upd H5 p6 (HO.tup [V.str "end", V.str ""])) := z5.trans (same_upd nn6)
        have t6 : Same H5 (upd H5 p6 (HO.tup [V.str "end", V.str ""])) := same_upd nn6
        generalize upd H5 p6 (HO.tup [V.str "end", V.str ""]) = H6 at e6 z6 t6 ⊢
        have e2 := t3 _ _ e2
        have e2 := t4 _ _ e2
        have e2 := t5 _ _ e2
        have e2 := t6 _ _ e2
        have e3 := t4 _ _ e3
        have e3 := t5 _ _ e3
        have e3 := t6 _ _ e3
        have e4 := t5 _ _ e4
        have e4 := t6 _ _ e4
        have e5 := t6 _ _ e5
        refine ⟨e2, [(.inr "top", .ref p3), (.inr "under", .ref p4), (.inr "x", .ref p5), (.inr "power", .ref p6)], rfl, (by show 4 ≤ 15; decide), ?_⟩
        rw [show mergeK [] ([(.inr "top", .ref p3), (.inr "under", .ref p4), (.inr "x", .ref p5), (.inr "power", .ref p6)] : List (Key × V)) = [(.inr "top", .ref p3), (.inr "under", .ref p4), (.inr "x", .ref p5), (.inr "power", .ref p6)] from by kernel_rfl]
        have ed : upd H6 d2 (HO.dK [(.inr "top", .ref p3), (.inr "under", .ref p4), (.inr "x", .ref p5), (.inr "power", .ref p6)]) d2 = some (HO.dK [(.inr "top", .ref p3), (.inr "under", .ref p4), (.inr "x", .ref p5), (.inr "power", .ref p6)]) := upd_same
        have zd : Same H (upd H6 d2 (HO.dK [(.inr "top", .ref p3), (.inr "under", .ref p4), (.inr "x", .ref p5), (.inr "power", .ref p6)])) := fun b o e => by rw [upd_ne (ne_of_none e nf2)]; exact z6 _ _ e
        have e3 : upd H6 d2 (HO.dK [(.inr "top", .ref p3), (.inr "under", .ref p4), (.inr "x", .ref p5), (.inr "power", .ref p6)]) p3 = _ := (upd_ne (ne_of e3 e2 (by intro z; cases z))).trans e3
        have e4 : upd H6 d2 (HO.dK [(.inr "top", .ref p3), (.inr "under", .ref p4), (.inr "x", .ref p5), (.inr "power", .ref p6)]) p4 = _ := (upd_ne (ne_of e4 e2 (by intro z; cases z))).trans e4
        have e5 : upd H6 d2 (HO.dK [(.inr "top", .ref p3), (.inr "under", .ref p4), (.inr "x", .ref p5), (.inr "power", .ref p6)]) p5 = _ := (upd_ne (ne_of e5 e2 (by intro z; cases z))).trans e5
        have e6 : upd H6 d2 (HO.dK [(.inr "top", .ref p3), (.inr "under", .ref p4), (.inr "x", .ref p5), (.inr "power", .ref p6)]) p6 = _ := (upd_ne (ne_of e6 e2 (by intro z; cases z))).trans e6
        generalize upd H6 d2 (HO.dK [(.inr "top", .ref p3), (.inr "under", .ref p4), (.inr "x", .ref p5), (.inr "power", .ref p6)]) = Hd at ed zd e3 e4 e5 e6 ⊢
        refine ⟨d2, rfl, .inl ⟨_, .inl ed⟩, _, rfl, _, DGet.k (k := .inr "hat") ed, ?_⟩
        rw [show valV ([(.inr "top", .ref p3), (.inr "under", .ref p4), (.inr "x", .ref p5), (.inr "power", .ref p6)] : List (Key × V)) (.inr "hat") = none from by kernel_rfl]
        exact (q _ zd).1 (by first | (exfalso; omega) | (simp [nx, nxN, isPm, h32]; done) | (exfalso; omega) | (subst h32; rfl))
      · rw [decide_eq_false h32]
        refine iteF ?_
        refine ⟨_, rfl, (by show 2 ≤ sizeLine; decide), fun l1 nn1 => ?_⟩
        have e1 : upd H l1 (HO.lst [V.str "begin", V.str "minus"]) l1 = some (HO.lst [V.str "begin", V.str "minus"]) := upd_same
        have z1 : Same H (upd H l1 (HO.lst [V.str "begin", V.str "minus"])) := z0.trans (same_upd nn1)
        have t1 : Same H (upd H l1 (HO.lst [V.str "begin", V.str "minus"])) := same_upd nn1
        generalize upd H l1 (HO.lst [V.str "begin", V.str "minus"]) = H1 at e1 z1 t1 ⊢
        refine ⟨l1, _, rfl, .inl (SqL.of e1), rfl, rfl, false, congrArg V.bl (by decide +kernel), ?_⟩
        refine iteF ?_
        refine ⟨_, rfl, rfl, false, congrArg V.bl (by decide +kernel), ?_⟩
        refine iteF ?_
        refine ⟨_, rfl, (by show 2 ≤ sizeLine; decide), fun l2 nn2 => ?_⟩
        have e2 : upd H1 l2 (HO.lst [V.str "top", V.str "under"]) l2 = some (HO.lst [V.str "top", V.str "under"]) := upd_same
        have z2 : Same H (upd H1 l2 (HO.lst [V.str "top", V.str "under"])) := z1.trans (same_upd nn2)
        have t2 : Same H1 (upd H1 l2 (HO.lst [V.str "top", V.str "under"])) := same_upd nn2
        generalize upd H1 l2 (HO.lst [V.str "top", V.str "under"]) = H2 at e2 z2 t2 ⊢
        refine ⟨l2, _, rfl, .inl (SqL.of e2), rfl, rfl, false, congrArg V.bl (by decide +kernel), ?_⟩
        refine iteF ?_
        refine iteF ?_
        refine ⟨_, rfl, rfl, false, congrArg V.bl (by decide +kernel), ?_⟩
        refine iteF ?_
        refine iteF ?_
        refine ⟨_, rfl, rfl, false, congrArg V.bl (by decide +kernel), ?_⟩
        refine iteF ?_
        refine ⟨_, rfl, rfl, false, congrArg V.bl (by decide +kernel), ?_⟩
        refine iteF ?_
        refine iteF ?_
        refine ⟨_, rfl, rfl, true, congrArg V.bl (by decide +kernel), ?_⟩
        refine iteT ?_
        refine ⟨_, rfl, c, _, rfl, rfl, _, rfl, ?_⟩
        rw [in_lit]
        by_cases hd : isD c = true
        · rw [decide_eq_true hd]
          refine iteT ?_
          refine ⟨_, rfl, (by show 2 ≤ sizeLine; decide), fun p3 nn3 => ?_⟩
          have e3 : upd H2 p3 (HO.tup [V.str "power", V.str (Tx [c])]) p3 = some (HO.tup [V.str "power", V.str (Tx [c])]) := upd_same
          have z3 : Same H (upd H2 p3 (HO.tup [V.str "power", V.str (Tx [c])])) := z2.trans (same_upd nn3)
          have t3 : Same H2 (upd H2 p3 (HO.tup [V.str "power", V.str (Tx [c])])) := same_upd nn3
          generalize upd H2 p3 (HO.tup [V.str "power", V.str (Tx [c])]) = H3 at e3 z3 t3 ⊢
          exact (q _ z3).2 (Md.pw [c]) p3 (by first | (exfalso; omega) | (simp [nx, nxN, isPm, h32, hd]; done) | (exfalso; (try simp only [isD, decide_eq_true_eq] at hd); omega) | (subst h32; rfl)) e3
        · rw [decide_eq_false hd]
          refine iteF ?_
          exact (q _ z2).1 (by first | (exfalso; omega) | (simp [nx, nxN, isPm, h32, hd]; done) | (exfalso; (try simp only [isD, decide_eq_true_eq] at hd); omega) | (subst h32; rfl))
    | tp s =>
      have hs : H a = some (.tup [V.str "top", V.str (Tx s)]) := hs
      have hl : s.length ≤ 1000 := hl
      refine ⟨_, rfl, a, _, rfl, SqT.of hs, rfl, _, _, rfl, _, _, rfl, rfl, ?_⟩
      refine ⟨_, rfl, rfl, _, rfl, ?_⟩
      rw [sg_lit lit_sp]
      by_cases h32 : c = 32
      · rw [decide_eq_true h32]
        refine iteT ?_
        refine ⟨_, rfl, (by show 5 ≤ sizeLine; decide), fun l1 nn1 => ?_⟩
        have e1 : upd H l1 (HO.lst [V.str "begin", V.str "minus", V.str "star", V.str "gap", V.str "end"]) l1 = some (HO.lst [V.str "begin", V.str "minus", V.str "star", V.str "gap", V.str "end"]) := upd_same
        have z1 : Same H (upd H l1 (HO.lst [V.str "begin", V.str "minus", V.str "star", V.str "gap", V.str "end"])) := z0.trans (same_upd nn1)
        have t1 : Same H (upd H l1 (HO.lst [V.str "begin", V.str "minus", V.str "star", V.str "gap", V.str "end"])) := same_upd nn1
        generalize upd H l1 (HO.lst [V.str "begin", V.str "minus", V.str "star", V.str "gap", V.str "end"]) = H1 at e1 z1 t1 ⊢
        refine ⟨l1, _, rfl, .inl (SqL.of e1), rfl, rfl, false, congrArg V.bl (by decide +kernel), ?_⟩
        refine iteF ?_
        intro d2 nd2
        have e2 : upd H1 d2 (HO.dK []) d2 = some (HO.dK []) := upd_same
        have z2 : Same H (upd H1 d2 (HO.dK [])) := z1.trans (same_upd nd2)
        have nf2 : H d2 = none := z1.free nd2
        generalize upd H1 d2 (HO.dK []) = H2 at e2 z2 ⊢
        refine ⟨(by show 2 ≤ sizeLine; decide), fun p3 nn3 => ?_⟩
        have e3 : upd H2 p3 (HO.tup [V.str "gap", V.str ""]) p3 = some (HO.tup [V.str "gap", V.str ""]) := upd_same
        have z3 : Same H (upd H2 p3 (HO.tup [V.str "gap", V.str ""])) := z2.trans (same_upd nn3)
        have t3 : Same H2 (upd H2 p3 (HO.tup [V.str "gap", V.str ""])) := same_upd nn3
        generalize upd H2 p3 (HO.tup [V.str "gap", V.str ""]) = H3 at e3 z3 t3 ⊢
        refine ⟨(by show 2 ≤ sizeLine; decide), fun p4 nn4 => ?_⟩
        have e4 : upd H3 p4 (HO.tup [V.str "gap", V.str ""]) p4 = some (HO.tup [V.str "gap", V.str ""]) := upd_same
        have z4 : Same H (upd H3 p4 (HO.tup [V.str "gap", V.str ""])) := z3.trans (same_upd nn4)
        have t4 : Same H3 (upd H3 p4 (HO.tup [V.str "gap", V.str ""])) := same_upd nn4
        generalize upd H3 p4 (HO.tup [V.str "gap", V.str ""]) = H4 at e4 z4 t4 ⊢
        refine ⟨(by show 2 ≤ sizeLine; decide), fun p5 nn5 => ?_⟩
        have e5 : upd H4 p5 (HO.tup [V.str "end", V.str ""]) p5 = some (HO.tup [V.str "end", V.str ""]) := upd_same
        have z5 : Same H (upd H4 p5 (HO.tup [V.str "end", V.str ""])) := z4.trans (same_upd nn5)
        have t5 : Same H4 (upd H4 p5 (HO.tup [V.str "end", V.str ""])) := same_upd nn5
        generalize upd H4 p5 (HO.tup [V.str "end", V.str ""]) = H5 at e5 z5 t5 ⊢
        refine ⟨(by show 2 ≤ sizeLine; decide), fun p6 nn6 => ?_⟩
        have e6 : upd H5 p6 (HO.tup [V.str "end", V.str ""]) p6 = some (HO.tup [V.str "end", V.str ""]) := upd_same
        have z6 : Same H (upd H5 p6 (HO.tup [V.str "end", V.str ""])) := z5.trans (same_upd nn6)
        have t6 : Same H5 (upd H5 p6 (HO.tup [V.str "end", V.str ""])) := same_upd nn6
        generalize upd H5 p6 (HO.tup [V.str "end", V.str ""]) = H6 at e6 z6 t6 ⊢
        have e2 := t3 _ _ e2
        have e2 := t4 _ _ e2
        have e2 := t5 _ _ e2
        have e2 := t6 _ _ e2
        have e3 := t4 _ _ e3
        have e3 := t5 _ _ e3
        have e3 := t6 _ _ e3
        have e4 := t5 _ _ e4
        have e4 := t6 _ _ e4
        have e5 := t6 _ _ e5
        refine ⟨e2, [(.inr "top", .ref p3), (.inr "under", .ref p4), (.inr "x", .ref p5), (.inr "power", .ref p6)], rfl, (by show 4 ≤ 15; decide), ?_⟩
        rw [show mergeK [] ([(.inr "top", .ref p3), (.inr "under", .ref p4), (.inr "x", .ref p5), (.inr "power", .ref p6)] : List (Key × V)) = [(.inr "top", .ref p3), (.inr "under", .ref p4), (.inr "x", .ref p5), (.inr "power", .ref p6)] from by kernel_rfl]
        have ed : upd H6 d2 (HO.dK [(.inr "top", .ref p3), (.inr "under", .ref p4), (.inr "x", .ref p5), (.inr "power", .ref p6)]) d2 = some (HO.dK [(.inr "top", .ref p3), (.inr "under", .ref p4), (.inr "x", .ref p5), (.inr "power", .ref p6)]) := upd_same
        have zd : Same H (upd H6 d2 (HO.dK [(.inr "top", .ref p3), (.inr "under", .ref p4), (.inr "x", .ref p5), (.inr "power", .ref p6)])) := fun b o e => by rw [upd_ne (ne_of_none e nf2)]; exact z6 _ _ e
        have e3 : upd H6 d2 (HO.dK [(.inr "top", .ref p3), (.inr "under", .ref p4), (.inr "x", .ref p5), (.inr "power", .ref p6)]) p3 = _ := (upd_ne (ne_of e3 e2 (by intro z; cases z))).trans e3
        have e4 : upd H6 d2 (HO.dK [(.inr "top", .ref p3), (.inr "under", .ref p4), (.inr "x", .ref p5), (.inr "power", .ref p6)]) p4 = _ := (upd_ne (ne_of e4 e2 (by intro z; cases z))).trans e4
        have e5 : upd H6 d2 (HO.dK [(.inr "top", .ref p3), (.inr "under", .ref p4), (.inr "x", .ref p5), (.inr "power", .ref p6)]) p5 = _ := (upd_ne (ne_of e5 e2 (by intro z; cases z))).trans e5
        have e6 : upd H6 d2 (HO.dK [(.inr "top", .ref p3), (.inr "under", .ref p4), (.inr "x", .ref p5), (.inr "power", .ref p6)]) p6 = _ := (upd_ne (ne_of e6 e2 (by intro z; cases z))).trans e6
        generalize upd H6 d2 (HO.dK [(.inr "top", .ref p3), (.inr "under", .ref p4), (.inr "x", .ref p5), (.inr "power", .ref p6)]) = Hd at ed zd e3 e4 e5 e6 ⊢
        refine ⟨d2, rfl, .inl ⟨_, .inl ed⟩, _, rfl, _, DGet.k (k := .inr "top") ed, ?_⟩
        rw [show valV ([(.inr "top", .ref p3), (.inr "under", .ref p4), (.inr "x", .ref p5), (.inr "power", .ref p6)] : List (Key × V)) (.inr "top") = some (V.ref p3) from by kernel_rfl]
        exact (q _ zd).2 (Md.gp) p3 (by first | (exfalso; omega) | (simp [nx, nxN, isPm, h32]; done) | (exfalso; omega) | (subst h32; rfl)) e3
      · rw [decide_eq_false h32]
        refine iteF ?_
        refine ⟨_, rfl, (by show 2 ≤ sizeLine; decide), fun l1 nn1 => ?_⟩
        have e1 : upd H l1 (HO.lst [V.str "begin", V.str "minus"]) l1 = some (HO.lst [V.str "begin", V.str "minus"]) := upd_same
        have z1 : Same H (upd H l1 (HO.lst [V.str "begin", V.str "minus"])) := z0.trans (same_upd nn1)
        have t1 : Same H (upd H l1 (HO.lst [V.str "begin", V.str "minus"])) := same_upd nn1
        generalize upd H l1 (HO.lst [V.str "begin", V.str "minus"]) = H1 at e1 z1 t1 ⊢
        refine ⟨l1, _, rfl, .inl (SqL.of e1), rfl, rfl, false, congrArg V.bl (by decide +kernel), ?_⟩
        refine iteF ?_
        refine ⟨_, rfl, rfl, false, congrArg V.bl (by decide +kernel), ?_⟩
        refine iteF ?_
        refine ⟨_, rfl, (by show 2 ≤ sizeLine; decide), fun l2 nn2 => ?_⟩
        have e2 : upd H1 l2 (HO.lst [V.str "top", V.str "under"]) l2 = some (HO.lst [V.str "top", V.str "under"]) := upd_same
        have z2 : Same H (upd H1 l2 (HO.lst [V.str "top", V.str "under"])) := z1.trans (same_upd nn2)
        have t2 : Same H1 (upd H1 l2 (HO.lst [V.str "top", V.str "under"])) := same_upd nn2
        generalize upd H1 l2 (HO.lst [V.str "top", V.str "under"]) = H2 at e2 z2 t2 ⊢
        refine ⟨l2, _, rfl, .inl (SqL.of e2), rfl, rfl, true, congrArg V.bl (by decide +kernel), ?_⟩
        refine iteT ?_
        refine ⟨_, rfl, c, _, rfl, rfl, _, rfl, ?_⟩
        rw [in_lit]
        by_cases hd : isD c = true
        · rw [decide_eq_true hd]
          refine iteT ?_
          refine ⟨_, rfl, rfl, _, rfl, ?_⟩
          rw [lit_zero, tx_eq, ← decide_not]
          by_cases hz : ¬ s = [48]
          · rw [decide_eq_true hz]
            refine iteT ?_
            refine ⟨_, rfl, Tx s, rfl, (by rw [tx_len, sizeLine_eq]; omega), _, _, rfl, rfl, _, rfl, ?_⟩
            rw [lt40]
            by_cases hl : s.length < 40
            · rw [decide_eq_true hl]
              refine iteT ?_
              refine ⟨_, rfl, _, rfl, _, rfl, Tx s, Tx [c], rfl, rfl, (by rw [tx_len, tx_len, sizeLine_eq]; show s.length + 1 ≤ _; omega), (by show 2 ≤ sizeLine; decide), fun p3 nn3 => ?_⟩
              have e3 : upd H2 p3 (HO.tup [V.str "top", V.str (Tx s ++ Tx [c])]) p3 = some (HO.tup [V.str "top", V.str (Tx s ++ Tx [c])]) := upd_same
              have z3 : Same H (upd H2 p3 (HO.tup [V.str "top", V.str (Tx s ++ Tx [c])])) := z2.trans (same_upd nn3)
              have t3 : Same H2 (upd H2 p3 (HO.tup [V.str "top", V.str (Tx s ++ Tx [c])])) := same_upd nn3
              generalize upd H2 p3 (HO.tup [V.str "top", V.str (Tx s ++ Tx [c])]) = H3 at e3 z3 t3 ⊢
              rw [tx_app] at e3
              exact (q _ z3).2 (Md.tp (s ++ [c])) p3 (by first | (exfalso; omega) | (simp [nx, nxN, isPm, h32, hd, hz, hl]; done) | (exfalso; (try simp only [isD, decide_eq_true_eq] at hd); omega) | (subst h32; rfl)) e3
            · rw [decide_eq_false hl]
              refine iteF ?_
              exact (q _ z2).1 (by first | (exfalso; omega) | (simp [nx, nxN, isPm, h32, hd, hz, hl]; done) | (exfalso; (try simp only [isD, decide_eq_true_eq] at hd); omega) | (subst h32; rfl))
          · rw [decide_eq_false hz]
            refine iteF ?_
            refine iteF ?_
            exact (q _ z2).1 (by first | (exfalso; omega) | (simp [nx, nxN, isPm, h32, hd, hz]; done) | (exfalso; (try simp only [isD, decide_eq_true_eq] at hd); omega) | (subst h32; rfl))
        · rw [decide_eq_false hd]
          refine iteF ?_
          refine ⟨_, rfl, rfl, true, congrArg V.bl (by decide +kernel), ?_⟩
          refine iteT ?_
          refine ⟨_, rfl, rfl, _, rfl, ?_⟩
          rw [sg_lit lit_slash]
          by_cases h47 : c = 47
          · rw [decide_eq_true h47]
            refine iteT ?_
            refine ⟨(by show 2 ≤ sizeLine; decide), fun p3 nn3 => ?_⟩
            have e3 : upd H2 p3 (HO.tup [V.str "slash", V.str ""]) p3 = some (HO.tup [V.str "slash", V.str ""]) := upd_same
            have z3 : Same H (upd H2 p3 (HO.tup [V.str "slash", V.str ""])) := z2.trans (same_upd nn3)
            have t3 : Same H2 (upd H2 p3 (HO.tup [V.str "slash", V.str ""])) := same_upd nn3
            generalize upd H2 p3 (HO.tup [V.str "slash", V.str ""]) = H3 at e3 z3 t3 ⊢
            exact (q _ z3).2 (Md.sl) p3 (by first | (exfalso; omega) | (simp [nx, nxN, isPm, h32, hd, h47]; done) | (exfalso; (try simp only [isD, decide_eq_true_eq] at hd); omega) | (subst h32; rfl) | (subst h47; rfl)) e3
          · rw [decide_eq_false h47]
            refine iteF ?_
            refine ⟨_, rfl, rfl, false, congrArg V.bl (by decide +kernel), ?_⟩
            refine iteF ?_
            refine ⟨_, rfl, rfl, false, congrArg V.bl (by decide +kernel), ?_⟩
            refine iteF ?_
            refine iteF ?_
            refine ⟨_, rfl, rfl, false, congrArg V.bl (by decide +kernel), ?_⟩
            refine iteF ?_
            refine ⟨_, rfl, rfl, false, congrArg V.bl (by decide +kernel), ?_⟩
            refine iteF ?_
            refine iteF ?_
            refine ⟨_, rfl, (by show 3 ≤ sizeLine; decide), fun l3 nn3 => ?_⟩
            have e3 : upd H2 l3 (HO.lst [V.str "top", V.str "under", V.str "gap"]) l3 = some (HO.lst [V.str "top", V.str "under", V.str "gap"]) := upd_same
            have z3 : Same H (upd H2 l3 (HO.lst [V.str "top", V.str "under", V.str "gap"])) := z2.trans (same_upd nn3)
            have t3 : Same H2 (upd H2 l3 (HO.lst [V.str "top", V.str "under", V.str "gap"])) := same_upd nn3
            generalize upd H2 l3 (HO.lst [V.str "top", V.str "under", V.str "gap"]) = H3 at e3 z3 t3 ⊢
            refine ⟨l3, _, rfl, .inl (SqL.of e3), rfl, rfl, true, congrArg V.bl (by decide +kernel), ?_⟩
            refine iteT ?_
            refine ⟨_, rfl, rfl, _, rfl, ?_⟩
            rw [sg_lit lit_star]
            by_cases h42 : c = 42
            · rw [decide_eq_true h42]
              refine iteT ?_
              refine ⟨(by show 2 ≤ sizeLine; decide), fun p4 nn4 => ?_⟩
              have e4 : upd H3 p4 (HO.tup [V.str "star", V.str ""]) p4 = some (HO.tup [V.str "star", V.str ""]) := upd_same
              have z4 : Same H (upd H3 p4 (HO.tup [V.str "star", V.str ""])) := z3.trans (same_upd nn4)
              have t4 : Same H3 (upd H3 p4 (HO.tup [V.str "star", V.str ""])) := same_upd nn4
              generalize upd H3 p4 (HO.tup [V.str "star", V.str ""]) = H4 at e4 z4 t4 ⊢
              exact (q _ z4).2 (Md.st) p4 (by first | (exfalso; omega) | (simp [nx, nxN, isPm, h32, hd, h47, h42]; done) | (exfalso; (try simp only [isD, decide_eq_true_eq] at hd); omega) | (subst h32; rfl) | (subst h47; rfl) | (subst h42; rfl)) e4
            · rw [decide_eq_false h42]
              refine iteF ?_
              refine ⟨_, rfl, (by show 6 ≤ sizeLine; decide), fun l4 nn4 => ?_⟩
              have e4 : upd H3 l4 (HO.lst [V.str "top", V.str "under", V.str "gap", V.str "x", V.str "power", V.str "end"]) l4 = some (HO.lst [V.str "top", V.str "under", V.str "gap", V.str "x", V.str "power", V.str "end"]) := upd_same
              have z4 : Same H (upd H3 l4 (HO.lst [V.str "top", V.str "under", V.str "gap", V.str "x", V.str "power", V.str "end"])) := z3.trans (same_upd nn4)
              have t4 : Same H3 (upd H3 l4 (HO.lst [V.str "top", V.str "under", V.str "gap", V.str "x", V.str "power", V.str "end"])) := same_upd nn4
              generalize upd H3 l4 (HO.lst [V.str "top", V.str "under", V.str "gap", V.str "x", V.str "power", V.str "end"]) = H4 at e4 z4 t4 ⊢
              refine ⟨l4, _, rfl, .inl (SqL.of e4), rfl, rfl, true, congrArg V.bl (by decide +kernel), ?_⟩
              refine iteT ?_
              refine ⟨_, rfl, c, _, rfl, rfl, _, rfl, ?_⟩
              rw [in_pm]
              by_cases hp : c = 43 ∨ c = 45
              · rw [decide_eq_true hp]
                refine iteT ?_
                refine ⟨(by show 2 ≤ sizeLine; decide), fun p5 nn5 => ?_⟩
                have e5 : upd H4 p5 (HO.tup [V.str "minus", V.str ""]) p5 = some (HO.tup [V.str "minus", V.str ""]) := upd_same
                have z5 : Same H (upd H4 p5 (HO.tup [V.str "minus", V.str ""])) := z4.trans (same_upd nn5)
                have t5 : Same H4 (upd H4 p5 (HO.tup [V.str "minus", V.str ""])) := same_upd nn5
                generalize upd H4 p5 (HO.tup [V.str "minus", V.str ""]) = H5 at e5 z5 t5 ⊢
                exact (q _ z5).2 (Md.mi) p5 (by first | (exfalso; omega) | (simp [nx, nxN, isPm, h32, hd, h47, h42, hp]; done) | (exfalso; (try simp only [isD, decide_eq_true_eq] at hd); omega) | (subst h32; rfl) | (subst h47; rfl) | (subst h42; rfl)) e5
              · rw [decide_eq_false hp]
                refine iteF ?_
                exact (q _ z4).1 (by first | (exfalso; omega) | (simp [nx, nxN, isPm, h32, hd, h47, h42, hp]; done) | (exfalso; (try simp only [isD, decide_eq_true_eq] at hd); omega) | (subst h32; rfl) | (subst h47; rfl) | (subst h42; rfl))
    | un s =>
      have hs : H a = some (.tup [V.str "under", V.str (Tx s)]) := hs
      have hl : s.length ≤ 1000 := hl
      refine ⟨_, rfl, a, _, rfl, SqT.of hs, rfl, _, _, rfl, _, _, rfl, rfl, ?_⟩
      refine ⟨_, rfl, rfl, _, rfl, ?_⟩
      rw [sg_lit lit_sp]
      by_cases h32 : c = 32
      · rw [decide_eq_true h32]
        refine iteT ?_
        refine ⟨_, rfl, (by show 5 ≤ sizeLine; decide), fun l1 nn1 => ?_⟩
        have e1 : upd H l1 (HO.lst [V.str "begin", V.str "minus", V.str "star", V.str "gap", V.str "end"]) l1 = some (HO.lst [V.str "begin", V.str "minus", V.str "star", V.str "gap", V.str "end"]) := upd_same
        have z1 : Same H (upd H l1 (HO.lst [V.str "begin", V.str "minus", V.str "star", V.str "gap", V.str "end"])) := z0.trans (same_upd nn1)
        have t1 : Same H (upd H l1 (HO.lst [V.str "begin", V.str "minus", V.str "star", V.str "gap", V.str "end"])) := same_upd nn1
        generalize upd H l1 (HO.lst [V.str "begin", V.str "minus", V.str "star", V.str "gap", V.str "end"]) = H1 at e1 z1 t1 ⊢
        refine ⟨l1, _, rfl, .inl (SqL.of e1), rfl, rfl, false, congrArg V.bl (by decide +kernel), ?_⟩
        refine iteF ?_
        intro d2 nd2
        have e2 : upd H1 d2 (HO.dK []) d2 = some (HO.dK []) := upd_same
        have z2 : Same H (upd H1 d2 (HO.dK [])) := z1.trans (same_upd nd2)
        have nf2 : H d2 = none := z1.free nd2
        generalize upd H1 d2 (HO.dK []) = H2 at e2 z2 ⊢
        refine ⟨(by show 2 ≤ sizeLine; decide), fun p3 nn3 => ?_⟩
        have e3 : upd H2 p3 (HO.tup [V.str "gap", V.str ""]) p3 = some (HO.tup [V.str "gap", V.str ""]) := upd_same
        have z3 : Same H (upd H2 p3 (HO.tup [V.str "gap", V.str ""])) := z2.trans (same_upd nn3)
        have t3 : Same H2 (upd H2 p3 (HO.tup [V.str "gap", V.str ""])) := same_upd nn3
        generalize upd H2 p3 (HO.tup [V.str "gap", V.str ""]) = H3 at e3 z3 t3 ⊢
        refine ⟨(by show 2 ≤ sizeLine; decide), fun p4 nn4 => ?_⟩
        have e4 : upd H3 p4 (HO.tup [V.str "gap", V.str ""]) p4 = some (HO.tup [V.str "gap", V.str ""]) := upd_same
        have z4 : Same H (upd H3 p4 (HO.tup [V.str "gap", V.str ""])) := z3.trans (same_upd nn4)
        have t4 : Same H3 (upd H3 p4 (HO.tup [V.str "gap", V.str ""])) := same_upd nn4
        generalize upd H3 p4 (HO.tup [V.str "gap", V.str ""]) = H4 at e4 z4 t4 ⊢
        refine ⟨(by show 2 ≤ sizeLine; decide), fun p5 nn5 => ?_⟩
        have e5 : upd H4 p5 (HO.tup [V.str "end", V.str ""]) p5 = some (HO.tup [V.str "end", V.str ""]) := upd_same
        have z5 : Same H (upd H4 p5 (HO.tup [V.str "end", V.str ""])) := z4.trans (same_upd nn5)
        have t5 : Same H4 (upd H4 p5 (HO.tup [V.str "end", V.str ""])) := same_upd nn5
        generalize upd H4 p5 (HO.tup [V.str "end", V.str ""]) = H5 at e5 z5 t5 ⊢
        refine ⟨(by show 2 ≤ sizeLine; decide), fun p6 nn6 => ?_⟩
        have e6 : upd H5 p6 (HO.tup [V.str "end", V.str ""]) p6 = some (HO.tup [V.str "end", V.str ""]) := upd_same
        have z6 : Same H (upd H5 p6 (HO.tup [V.str "end", V.str ""])) := z5.trans (same_upd nn6)
        have t6 : Same H5 (upd H5 p6 (HO.tup [V.str "end", V.str ""])) := same_upd nn6
        generalize upd H5 p6 (HO.tup [V.str "end", V.str ""]) = H6 at e6 z6 t6 ⊢
        have e2 := t3 _ _ e2
        have e2 := t4 _ _ e2
        have e2 := t5 _ _ e2
        have e2 := t6 _ _ e2
        have e3 := t4 _ _ e3
        have e3 := t5 _ _ e3
        have e3 := t6 _ _ e3
        have e4 := t5 _ _ e4
        have e4 := t6 _ _ e4
        have e5 := t6 _ _ e5
        refine ⟨e2, [(.inr "top", .ref p3), (.inr "under", .ref p4), (.inr "x", .ref p5), (.inr "power", .ref p6)], rfl, (by show 4 ≤ 15; decide), ?_⟩
        rw [show mergeK [] ([(.inr "top", .ref p3), (.inr "under", .ref p4), (.inr "x", .ref p5), (.inr "power", .ref p6)] : List (Key × V)) = [(.inr "top", .ref p3), (.inr "under", .ref p4), (.inr "x", .ref p5), (.inr "power", .ref p6)] from by kernel_rfl]
        have ed : upd H6 d2 (HO.dK [(.inr "top", .ref p3), (.inr "under", .ref p4), (.inr "x", .ref p5), (.inr "power", .ref p6)]) d2 = some (HO.dK [(.inr "top", .ref p3), (.inr "under", .ref p4), (.inr "x", .ref p5), (.inr "power", .ref p6)]) := upd_same
        have zd : Same H (upd H6 d2 (HO.dK [(.inr "top", .ref p3), (.inr "under", .ref p4), (.inr "x", .ref p5), (.inr "power", .ref p6)])) := fun b o e => by rw [upd_ne (ne_of_none e nf2)]; exact z6 _ _ e
        have e3 : upd H6 d2 (HO.dK [(.inr "top", .ref p3), (.inr "under", .ref p4), (.inr "x", .ref p5), (.inr "power", .ref p6)]) p3 = _ := (upd_ne (ne_of e3 e2 (by intro z; cases z))).trans e3
        have e4 : upd H6 d2 (HO.dK [(.inr "top", .ref p3), (.inr "under", .ref p4), (.inr "x", .ref p5), (.inr "power", .ref p6)]) p4 = _ := (upd_ne (ne_of e4 e2 (by intro z; cases z))).trans e4
        have e5 : upd H6 d2 (HO.dK [(.inr "top", .ref p3), (.inr "under", .ref p4), (.inr "x", .ref p5), (.inr "power", .ref p6)]) p5 = _ := (upd_ne (ne_of e5 e2 (by intro z; cases z))).trans e5
        have e6 : upd H6 d2 (HO.dK [(.inr "top", .ref p3), (.inr "under", .ref p4), (.inr "x", .ref p5), (.inr "power", .ref p6)]) p6 = _ := (upd_ne (ne_of e6 e2 (by intro z; cases z))).trans e6
        generalize upd H6 d2 (HO.dK [(.inr "top", .ref p3), (.inr "under", .ref p4), (.inr "x", .ref p5), (.inr "power", .ref p6)]) = Hd at ed zd e3 e4 e5 e6 ⊢
        refine ⟨d2, rfl, .inl ⟨_, .inl ed⟩, _, rfl, _, DGet.k (k := .inr "under") ed, ?_⟩
        rw [show valV ([(.inr "top", .ref p3), (.inr "under", .ref p4), (.inr "x", .ref p5), (.inr "power", .ref p6)] : List (Key × V)) (.inr "under") = some (V.ref p4) from by kernel_rfl]
        exact (q _ zd).2 (Md.gp) p4 (by first | (exfalso; omega) | (simp [nx, nxN, isPm, h32]; done) | (exfalso; omega) | (subst h32; rfl)) e4
      · rw [decide_eq_false h32]
        refine iteF ?_
        refine ⟨_, rfl, (by show 2 ≤ sizeLine; decide), fun l1 nn1 => ?_⟩
        have e1 : upd H l1 (HO.lst [V.str "begin", V.str "minus"]) l1 = some (HO.lst [V.str "begin", V.str "minus"]) := upd_same
        have z1 : Same H (upd H l1 (HO.lst [V.str "begin", V.str "minus"])) := z0.trans (same_upd nn1)
        have t1 : Same H (upd H l1 (HO.lst [V.str "begin", V.str "minus"])) := same_upd nn1
        generalize upd H l1 (HO.lst [V.str "begin", V.str "minus"]) = H1 at e1 z1 t1 ⊢
        refine ⟨l1, _, rfl, .inl (SqL.of e1), rfl, rfl, false, congrArg V.bl (by decide +kernel), ?_⟩
        refine iteF ?_
        refine ⟨_, rfl, rfl, false, congrArg V.bl (by decide +kernel), ?_⟩
        refine iteF ?_
        refine ⟨_, rfl, (by show 2 ≤ sizeLine; decide), fun l2 nn2 => ?_⟩
        have e2 : upd H1 l2 (HO.lst [V.str "top", V.str "under"]) l2 = some (HO.lst [V.str "top", V.str "under"]) := upd_same
        have z2 : Same H (upd H1 l2 (HO.lst [V.str "top", V.str "under"])) := z1.trans (same_upd nn2)
        have t2 : Same H1 (upd H1 l2 (HO.lst [V.str "top", V.str "under"])) := same_upd nn2
        generalize upd H1 l2 (HO.lst [V.str "top", V.str "under"]) = H2 at e2 z2 t2 ⊢
        refine ⟨l2, _, rfl, .inl (SqL.of e2), rfl, rfl, true, congrArg V.bl (by decide +kernel), ?_⟩
        refine iteT ?_
        refine ⟨_, rfl, c, _, rfl, rfl, _, rfl, ?_⟩
        rw [in_lit]
        by_cases hd : isD c = true
        · rw [decide_eq_true hd]
          refine iteT ?_
          refine ⟨_, rfl, rfl, _, rfl, ?_⟩
          rw [lit_zero, tx_eq, ← decide_not]
          by_cases hz : ¬ s = [48]
          · rw [decide_eq_true hz]
            refine iteT ?_
            refine ⟨_, rfl, Tx s, rfl, (by rw [tx_len, sizeLine_eq]; omega), _, _, rfl, rfl, _, rfl, ?_⟩
            rw [lt40]
            by_cases hl : s.length < 40
            · rw [decide_eq_true hl]
              refine iteT ?_
              refine ⟨_, rfl, _, rfl, _, rfl, Tx s, Tx [c], rfl, rfl, (by rw [tx_len, tx_len, sizeLine_eq]; show s.length + 1 ≤ _; omega), (by show 2 ≤ sizeLine; decide), fun p3 nn3 => ?_⟩
              have e3 : upd H2 p3 (HO.tup [V.str "under", V.str (Tx s ++ Tx [c])]) p3 = some (HO.tup [V.str "under", V.str (Tx s ++ Tx [c])]) := upd_same
              have z3 : Same H (upd H2 p3 (HO.tup [V.str "under", V.str (Tx s ++ Tx [c])])) := z2.trans (same_upd nn3)
              have t3 : Same H2 (upd H2 p3 (HO.tup [V.str "under", V.str (Tx s ++ Tx [c])])) := same_upd nn3
              generalize upd H2 p3 (HO.tup [V.str "under", V.str (Tx s ++ Tx [c])]) = H3 at e3 z3 t3 ⊢
              rw [tx_app] at e3
              exact (q _ z3).2 (Md.un (s ++ [c])) p3 (by first | (exfalso; omega) | (simp [nx, nxN, isPm, h32, hd, hz, hl]; done) | (exfalso; (try simp only [isD, decide_eq_true_eq] at hd); omega) | (subst h32; rfl)) e3
            · rw [decide_eq_false hl]
              refine iteF ?_
              exact (q _ z2).1 (by first | (exfalso; omega) | (simp [nx, nxN, isPm, h32, hd, hz, hl]; done) | (exfalso; (try simp only [isD, decide_eq_true_eq] at hd); omega) | (subst h32; rfl))
          · rw [decide_eq_false hz]
            refine iteF ?_
            refine iteF ?_
            exact (q _ z2).1 (by first | (exfalso; omega) | (simp [nx, nxN, isPm, h32, hd, hz]; done) | (exfalso; (try simp only [isD, decide_eq_true_eq] at hd); omega) | (subst h32; rfl))
        · rw [decide_eq_false hd]
          refine iteF ?_
          refine ⟨_, rfl, rfl, false, congrArg V.bl (by decide +kernel), ?_⟩
          refine iteF ?_
          refine iteF ?_
          refine ⟨_, rfl, rfl, false, congrArg V.bl (by decide +kernel), ?_⟩
          refine iteF ?_
          refine ⟨_, rfl, rfl, false, congrArg V.bl (by decide +kernel), ?_⟩
          refine iteF ?_
          refine iteF ?_
          refine ⟨_, rfl, rfl, false, congrArg V.bl (by decide +kernel), ?_⟩
          refine iteF ?_
          refine ⟨_, rfl, rfl, false, congrArg V.bl (by decide +kernel), ?_⟩
          refine iteF ?_
          refine iteF ?_
          refine ⟨_, rfl, (by show 3 ≤ sizeLine; decide), fun l3 nn3 => ?_⟩
          have e3 : upd H2 l3 (HO.lst [V.str "top", V.str "under", V.str "gap"]) l3 = some (HO.lst [V.str "top", V.str "under", V.str "gap"]) := upd_same
          have z3 : Same H (upd H2 l3 (HO.lst [V.str "top", V.str "under", V.str "gap"])) := z2.trans (same_upd nn3)
          have t3 : Same H2 (upd H2 l3 (HO.lst [V.str "top", V.str "under", V.str "gap"])) := same_upd nn3
          generalize upd H2 l3 (HO.lst [V.str "top", V.str "under", V.str "gap"]) = H3 at e3 z3 t3 ⊢
          refine ⟨l3, _, rfl, .inl (SqL.of e3), rfl, rfl, true, congrArg V.bl (by decide +kernel), ?_⟩
          refine iteT ?_
          refine ⟨_, rfl, rfl, _, rfl, ?_⟩
          rw [sg_lit lit_star]
          by_cases h42 : c = 42
          · rw [decide_eq_true h42]
            refine iteT ?_
            refine ⟨(by show 2 ≤ sizeLine; decide), fun p4 nn4 => ?_⟩
            have e4 : upd H3 p4 (HO.tup [V.str "star", V.str ""]) p4 = some (HO.tup [V.str "star", V.str ""]) := upd_same
            have z4 : Same H (upd H3 p4 (HO.tup [V.str "star", V.str ""])) := z3.trans (same_upd nn4)
            have t4 : Same H3 (upd H3 p4 (HO.tup [V.str "star", V.str ""])) := same_upd nn4
            generalize upd H3 p4 (HO.tup [V.str "star", V.str ""]) = H4 at e4 z4 t4 ⊢
            exact (q _ z4).2 (Md.st) p4 (by first | (exfalso; omega) | (simp [nx, nxN, isPm, h32, hd, h42]; done) | (exfalso; (try simp only [isD, decide_eq_true_eq] at hd); omega) | (subst h32; rfl) | (subst h42; rfl)) e4
          · rw [decide_eq_false h42]
            refine iteF ?_
            refine ⟨_, rfl, (by show 6 ≤ sizeLine; decide), fun l4 nn4 => ?_⟩
            have e4 : upd H3 l4 (HO.lst [V.str "top", V.str "under", V.str "gap", V.str "x", V.str "power", V.str "end"]) l4 = some (HO.lst [V.str "top", V.str "under", V.str "gap", V.str "x", V.str "power", V.str "end"]) := upd_same
            have z4 : Same H (upd H3 l4 (HO.lst [V.str "top", V.str "under", V.str "gap", V.str "x", V.str "power", V.str "end"])) := z3.trans (same_upd nn4)
            have t4 : Same H3 (upd H3 l4 (HO.lst [V.str "top", V.str "under", V.str "gap", V.str "x", V.str "power", V.str "end"])) := same_upd nn4
            generalize upd H3 l4 (HO.lst [V.str "top", V.str "under", V.str "gap", V.str "x", V.str "power", V.str "end"]) = H4 at e4 z4 t4 ⊢
            refine ⟨l4, _, rfl, .inl (SqL.of e4), rfl, rfl, true, congrArg V.bl (by decide +kernel), ?_⟩
            refine iteT ?_
            refine ⟨_, rfl, c, _, rfl, rfl, _, rfl, ?_⟩
            rw [in_pm]
            by_cases hp : c = 43 ∨ c = 45
            · rw [decide_eq_true hp]
              refine iteT ?_
              refine ⟨(by show 2 ≤ sizeLine; decide), fun p5 nn5 => ?_⟩
              have e5 : upd H4 p5 (HO.tup [V.str "minus", V.str ""]) p5 = some (HO.tup [V.str "minus", V.str ""]) := upd_same
              have z5 : Same H (upd H4 p5 (HO.tup [V.str "minus", V.str ""])) := z4.trans (same_upd nn5)
              have t5 : Same H4 (upd H4 p5 (HO.tup [V.str "minus", V.str ""])) := same_upd nn5
              generalize upd H4 p5 (HO.tup [V.str "minus", V.str ""]) = H5 at e5 z5 t5 ⊢
              exact (q _ z5).2 (Md.mi) p5 (by first | (exfalso; omega) | (simp [nx, nxN, isPm, h32, hd, h42, hp]; done) | (exfalso; (try simp only [isD, decide_eq_true_eq] at hd); omega) | (subst h32; rfl) | (subst h42; rfl)) e5
            · rw [decide_eq_false hp]
              refine iteF ?_
              exact (q _ z4).1 (by first | (exfalso; omega) | (simp [nx, nxN, isPm, h32, hd, h42, hp]; done) | (exfalso; (try simp only [isD, decide_eq_true_eq] at hd); omega) | (subst h32; rfl) | (subst h42; rfl))
    | pw s =>
      have hs : H a = some (.tup [V.str "power", V.str (Tx s)]) := hs
      have hl : s.length ≤ 1000 := hl
      refine ⟨_, rfl, a, _, rfl, SqT.of hs, rfl, _, _, rfl, _, _, rfl, rfl, ?_⟩
      refine ⟨_, rfl, rfl, _, rfl, ?_⟩
      rw [sg_lit lit_sp]
      by_cases h32 : c = 32
      · rw [decide_eq_true h32]
        refine iteT ?_
        refine ⟨_, rfl, (by show 5 ≤ sizeLine; decide), fun l1 nn1 => ?_⟩
        have e1 : upd H l1 (HO.lst [V.str "begin", V.str "minus", V.str "star", V.str "gap", V.str "end"]) l1 = some (HO.lst [V.str "begin", V.str "minus", V.str "star", V.str "gap", V.str "end"]) := upd_same
        have z1 : Same H (upd H l1 (HO.lst [V.str "begin", V.str "minus", V.str "star", V.str "gap", V.str "end"])) := z0.trans (same_upd nn1)
        have t1 : Same H (upd H l1 (HO.lst [V.str "begin", V.str "minus", V.str "star", V.str "gap", V.str "end"])) := same_upd nn1
        generalize upd H l1 (HO.lst [V.str "begin", V.str "minus", V.str "star", V.str "gap", V.str "end"]) = H1 at e1 z1 t1 ⊢
        refine ⟨l1, _, rfl, .inl (SqL.of e1), rfl, rfl, false, congrArg V.bl (by decide +kernel), ?_⟩
        refine iteF ?_
        intro d2 nd2
        have e2 : upd H1 d2 (HO.dK []) d2 = some (HO.dK []) := upd_same
        have z2 : Same H (upd H1 d2 (HO.dK [])) := z1.trans (same_upd nd2)
        have nf2 : H d2 = none := z1.free nd2
        generalize upd H1 d2 (HO.dK []) = H2 at e2 z2 ⊢
        refine ⟨(by show 2 ≤ sizeLine; decide), fun p3 nn3 => ?_⟩
        have e3 : upd H2 p3 (HO.tup [V.str "gap", V.str ""]) p3 = some (HO.tup [V.str "gap", V.str ""]) := upd_same
        have z3 : Same H (upd H2 p3 (HO.tup [V.str "gap", V.str ""])) := z2.trans (same_upd nn3)
        have t3 : Same H2 (upd H2 p3 (HO.tup [V.str "gap", V.str ""])) := same_upd nn3
        generalize upd H2 p3 (HO.tup [V.str "gap", V.str ""]) = H3 at e3 z3 t3 ⊢
        refine ⟨(by show 2 ≤ sizeLine; decide), fun p4 nn4 => ?_⟩
        have e4 : upd H3 p4 (HO.tup [V.str "gap", V.str ""]) p4 = some (HO.tup [V.str "gap", V.str ""]) := upd_same
        have z4 : Same H (upd H3 p4 (HO.tup [V.str "gap", V.str ""])) := z3.trans (same_upd nn4)
        have t4 : Same H3 (upd H3 p4 (HO.tup [V.str "gap", V.str ""])) := same_upd nn4
        generalize upd H3 p4 (HO.tup [V.str "gap", V.str ""]) = H4 at e4 z4 t4 ⊢
        refine ⟨(by show 2 ≤ sizeLine; decide), fun p5 nn5 => ?_⟩
        have e5 : upd H4 p5 (HO.tup [V.str "end", V.str ""]) p5 = some (HO.tup [V.str "end", V.str ""]) := upd_same
        have z5 : Same H (upd H4 p5 (HO.tup [V.str "end", V.str ""])) := z4.trans (same_upd nn5)
        have t5 : Same H4 (upd H4 p5 (HO.tup [V.str "end", V.str ""])) := same_upd nn5
        generalize upd H4 p5 (HO.tup [V.str "end", V.str ""]) = H5 at e5 z5 t5 ⊢
        refine ⟨(by show 2 ≤ sizeLine; decide), fun p6 nn6 => ?_⟩
        have e6 : upd H5 p6 (HO.tup [V.str "end", V.str ""]) p6 = some (HO.tup [V.str "end", V.str ""]) := upd_same
        have z6 : Same H (upd H5 p6 (HO.tup [V.str "end", V.str ""])) := z5.trans (same_upd nn6)
        have t6 : Same H5 (upd H5 p6 (HO.tup [V.str "end", V.str ""])) := same_upd nn6
        generalize upd H5 p6 (HO.tup [V.str "end", V.str ""]) = H6 at e6 z6 t6 ⊢
        have e2 := t3 _ _ e2
        have e2 := t4 _ _ e2
        have e2 := t5 _ _ e2
        have e2 := t6 _ _ e2
        have e3 := t4 _ _ e3
        have e3 := t5 _ _ e3
        have e3 := t6 _ _ e3
        have e4 := t5 _ _ e4
        have e4 := t6 _ _ e4
        have e5 := t6 _ _ e5
        refine ⟨e2, [(.inr "top", .ref p3), (.inr "under", .ref p4), (.inr "x", .ref p5), (.inr "power", .ref p6)], rfl, (by show 4 ≤ 15; decide), ?_⟩
        rw [show mergeK [] ([(.inr "top", .ref p3), (.inr "under", .ref p4), (.inr "x", .ref p5), (.inr "power", .ref p6)] : List (Key × V)) = [(.inr "top", .ref p3), (.inr "under", .ref p4), (.inr "x", .ref p5), (.inr "power", .ref p6)] from by kernel_rfl]
        have ed : upd H6 d2 (HO.dK [(.inr "top", .ref p3), (.inr "under", .ref p4), (.inr "x", .ref p5), (.inr "power", .ref p6)]) d2 = some (HO.dK [(.inr "top", .ref p3), (.inr "under", .ref p4), (.inr "x", .ref p5), (.inr "power", .ref p6)]) := upd_same
        have zd : Same H (upd H6 d2 (HO.dK [(.inr "top", .ref p3), (.inr "under", .ref p4), (.inr "x", .ref p5), (.inr "power", .ref p6)])) := fun b o e => by rw [upd_ne (ne_of_none e nf2)]; exact z6 _ _ e
        have e3 : upd H6 d2 (HO.dK [(.inr "top", .ref p3), (.inr "under", .ref p4), (.inr "x", .ref p5), (.inr "power", .ref p6)]) p3 = _ := (upd_ne (ne_of e3 e2 (by intro z; cases z))).trans e3
        have e4 : upd H6 d2 (HO.dK [(.inr "top", .ref p3), (.inr "under", .ref p4), (.inr "x", .ref p5), (.inr "power", .ref p6)]) p4 = _ := (upd_ne (ne_of e4 e2 (by intro z; cases z))).trans e4
        have e5 : upd H6 d2 (HO.dK [(.inr "top", .ref p3), (.inr "under", .ref p4), (.inr "x", .ref p5), (.inr "power", .ref p6)]) p5 = _ := (upd_ne (ne_of e5 e2 (by intro z; cases z))).trans e5
        have e6 : upd H6 d2 (HO.dK [(.inr "top", .ref p3), (.inr "under", .ref p4), (.inr "x", .ref p5), (.inr "power", .ref p6)]) p6 = _ := (upd_ne (ne_of e6 e2 (by intro z; cases z))).trans e6
        generalize upd H6 d2 (HO.dK [(.inr "top", .ref p3), (.inr "under", .ref p4), (.inr "x", .ref p5), (.inr "power", .ref p6)]) = Hd at ed zd e3 e4 e5 e6 ⊢
        refine ⟨d2, rfl, .inl ⟨_, .inl ed⟩, _, rfl, _, DGet.k (k := .inr "power") ed, ?_⟩
        rw [show valV ([(.inr "top", .ref p3), (.inr "under", .ref p4), (.inr "x", .ref p5), (.inr "power", .ref p6)] : List (Key × V)) (.inr "power") = some (V.ref p6) from by kernel_rfl]
        exact (q _ zd).2 (Md.en) p6 (by first | (exfalso; omega) | (simp [nx, nxN, isPm, h32]; done) | (exfalso; omega) | (subst h32; rfl)) e6
      · rw [decide_eq_false h32]
        refine iteF ?_
        refine ⟨_, rfl, (by show 2 ≤ sizeLine; decide), fun l1 nn1 => ?_⟩
        have e1 : upd H l1 (HO.lst [V.str "begin", V.str "minus"]) l1 = some (HO.lst [V.str "begin", V.str "minus"]) := upd_same
        have z1 : Same H (upd H l1 (HO.lst [V.str "begin", V.str "minus"])) := z0.trans (same_upd nn1)
        have t1 : Same H (upd H l1 (HO.lst [V.str "begin", V.str "minus"])) := same_upd nn1
        generalize upd H l1 (HO.lst [V.str "begin", V.str "minus"]) = H1 at e1 z1 t1 ⊢
        refine ⟨l1, _, rfl, .inl (SqL.of e1), rfl, rfl, false, congrArg V.bl (by decide +kernel), ?_⟩
        refine iteF ?_
        refine ⟨_, rfl, rfl, false, congrArg V.bl (by decide +kernel), ?_⟩
        refine iteF ?_
        refine ⟨_, rfl, (by show 2 ≤ sizeLine; decide), fun l2 nn2 => ?_⟩
        have e2 : upd H1 l2 (HO.lst [V.str "top", V.str "under"]) l2 = some (HO.lst [V.str "top", V.str "under"]) := upd_same
        have z2 : Same H (upd H1 l2 (HO.lst [V.str "top", V.str "under"])) := z1.trans (same_upd nn2)
        have t2 : Same H1 (upd H1 l2 (HO.lst [V.str "top", V.str "under"])) := same_upd nn2
        generalize upd H1 l2 (HO.lst [V.str "top", V.str "under"]) = H2 at e2 z2 t2 ⊢
        refine ⟨l2, _, rfl, .inl (SqL.of e2), rfl, rfl, false, congrArg V.bl (by decide +kernel), ?_⟩
        refine iteF ?_
        refine iteF ?_
        refine ⟨_, rfl, rfl, false, congrArg V.bl (by decide +kernel), ?_⟩
        refine iteF ?_
        refine iteF ?_
        refine ⟨_, rfl, rfl, false, congrArg V.bl (by decide +kernel), ?_⟩
        refine iteF ?_
        refine ⟨_, rfl, rfl, false, congrArg V.bl (by decide +kernel), ?_⟩
        refine iteF ?_
        refine iteF ?_
        refine ⟨_, rfl, rfl, false, congrArg V.bl (by decide +kernel), ?_⟩
        refine iteF ?_
        refine ⟨_, rfl, rfl, true, congrArg V.bl (by decide +kernel), ?_⟩
        refine iteT ?_
        refine ⟨_, rfl, rfl, _, rfl, ?_⟩
        rw [lit_one, tx_eq]
        by_cases h1 : s = [49]
        · rw [decide_eq_true h1]
          refine iteT ?_
          refine ⟨_, rfl, c, _, rfl, rfl, _, rfl, ?_⟩
          rw [in_02]
          by_cases h02 : 48 ≤ c ∧ c ≤ 50
          · rw [decide_eq_true h02]
            refine iteT ?_
            subst h1
            refine ⟨_, rfl, _, rfl, Tx [49], Tx [c], rfl, rfl, (by show 2 ≤ sizeLine; decide), (by show 2 ≤ sizeLine; decide), fun p3 nn3 => ?_⟩
            have e3 : upd H2 p3 (HO.tup [V.str "power", V.str (Tx [49] ++ Tx [c])]) p3 = some (HO.tup [V.str "power", V.str (Tx [49] ++ Tx [c])]) := upd_same
            have z3 : Same H (upd H2 p3 (HO.tup [V.str "power", V.str (Tx [49] ++ Tx [c])])) := z2.trans (same_upd nn3)
            have t3 : Same H2 (upd H2 p3 (HO.tup [V.str "power", V.str (Tx [49] ++ Tx [c])])) := same_upd nn3
            generalize upd H2 p3 (HO.tup [V.str "power", V.str (Tx [49] ++ Tx [c])]) = H3 at e3 z3 t3 ⊢
            rw [tx_app] at e3
            exact (q _ z3).2 (Md.pw ([49] ++ [c])) p3 (by first | (exfalso; omega) | (simp [nx, nxN, isPm, h32, h02]; done) | (exfalso; omega) | (subst h32; rfl)) e3
          · rw [decide_eq_false h02]
            refine iteF ?_
            refine ⟨_, rfl, (by show 3 ≤ sizeLine; decide), fun l3 nn3 => ?_⟩
            have e3 : upd H2 l3 (HO.lst [V.str "top", V.str "under", V.str "gap"]) l3 = some (HO.lst [V.str "top", V.str "under", V.str "gap"]) := upd_same
            have z3 : Same H (upd H2 l3 (HO.lst [V.str "top", V.str "under", V.str "gap"])) := z2.trans (same_upd nn3)
            have t3 : Same H2 (upd H2 l3 (HO.lst [V.str "top", V.str "under", V.str "gap"])) := same_upd nn3
            generalize upd H2 l3 (HO.lst [V.str "top", V.str "under", V.str "gap"]) = H3 at e3 z3 t3 ⊢
            refine ⟨l3, _, rfl, .inl (SqL.of e3), rfl, rfl, false, congrArg V.bl (by decide +kernel), ?_⟩
            refine iteF ?_
            refine iteF ?_
            refine ⟨_, rfl, (by show 6 ≤ sizeLine; decide), fun l4 nn4 => ?_⟩
            have e4 : upd H3 l4 (HO.lst [V.str "top", V.str "under", V.str "gap", V.str "x", V.str "power", V.str "end"]) l4 = some (HO.lst [V.str "top", V.str "under", V.str "gap", V.str "x", V.str "power", V.str "end"]) := upd_same
            have z4 : Same H (upd H3 l4 (HO.lst [V.str "top", V.str "under", V.str "gap", V.str "x", V.str "power", V.str "end"])) := z3.trans (same_upd nn4)
            have t4 : Same H3 (upd H3 l4 (HO.lst [V.str "top", V.str "under", V.str "gap", V.str "x", V.str "power", V.str "end"])) := same_upd nn4
            generalize upd H3 l4 (HO.lst [V.str "top", V.str "under", V.str "gap", V.str "x", V.str "power", V.str "end"]) = H4 at e4 z4 t4 ⊢
            refine ⟨l4, _, rfl, .inl (SqL.of e4), rfl, rfl, true, congrArg V.bl (by decide +kernel), ?_⟩
            refine iteT ?_
            refine ⟨_, rfl, c, _, rfl, rfl, _, rfl, ?_⟩
            rw [in_pm]
            by_cases hp : c = 43 ∨ c = 45
            · rw [decide_eq_true hp]
              refine iteT ?_
              refine ⟨(by show 2 ≤ sizeLine; decide), fun p5 nn5 => ?_⟩
              have e5 : upd H4 p5 (HO.tup [V.str "minus", V.str ""]) p5 = some (HO.tup [V.str "minus", V.str ""]) := upd_same
              have z5 : Same H (upd H4 p5 (HO.tup [V.str "minus", V.str ""])) := z4.trans (same_upd nn5)
              have t5 : Same H4 (upd H4 p5 (HO.tup [V.str "minus", V.str ""])) := same_upd nn5
              generalize upd H4 p5 (HO.tup [V.str "minus", V.str ""]) = H5 at e5 z5 t5 ⊢
              exact (q _ z5).2 (Md.mi) p5 (by first | (exfalso; omega) | (simp [nx, nxN, isPm, h32, h1, h02, hp]; done) | (exfalso; omega) | (subst h32; rfl)) e5
            · rw [decide_eq_false hp]
              refine iteF ?_
              exact (q _ z4).1 (by first | (exfalso; omega) | (simp [nx, nxN, isPm, h32, h1, h02, hp]; done) | (exfalso; omega) | (subst h32; rfl))
        · rw [decide_eq_false h1]
          refine iteF ?_
          refine iteF ?_
          refine ⟨_, rfl, (by show 3 ≤ sizeLine; decide), fun l3 nn3 => ?_⟩
          have e3 : upd H2 l3 (HO.lst [V.str "top", V.str "under", V.str "gap"]) l3 = some (HO.lst [V.str "top", V.str "under", V.str "gap"]) := upd_same
          have z3 : Same H (upd H2 l3 (HO.lst [V.str "top", V.str "under", V.str "gap"])) := z2.trans (same_upd nn3)
          have t3 : Same H2 (upd H2 l3 (HO.lst [V.str "top", V.str "under", V.str "gap"])) := same_upd nn3
          generalize upd H2 l3 (HO.lst [V.str "top", V.str "under", V.str "gap"]) = H3 at e3 z3 t3 ⊢
          refine ⟨l3, _, rfl, .inl (SqL.of e3), rfl, rfl, false, congrArg V.bl (by decide +kernel), ?_⟩
          refine iteF ?_
          refine iteF ?_
          refine ⟨_, rfl, (by show 6 ≤ sizeLine; decide), fun l4 nn4 => ?_⟩
          have e4 : upd H3 l4 (HO.lst [V.str "top", V.str "under", V.str "gap", V.str "x", V.str "power", V.str "end"]) l4 = some (HO.lst [V.str "top", V.str "under", V.str "gap", V.str "x", V.str "power", V.str "end"]) := upd_same
          have z4 : Same H (upd H3 l4 (HO.lst [V.str "top", V.str "under", V.str "gap", V.str "x", V.str "power", V.str "end"])) := z3.trans (same_upd nn4)
          have t4 : Same H3 (upd H3 l4 (HO.lst [V.str "top", V.str "under", V.str "gap", V.str "x", V.str "power", V.str "end"])) := same_upd nn4
          generalize upd H3 l4 (HO.lst [V.str "top", V.str "under", V.str "gap", V.str "x", V.str "power", V.str "end"]) = H4 at e4 z4 t4 ⊢
          refine ⟨l4, _, rfl, .inl (SqL.of e4), rfl, rfl, true, congrArg V.bl (by decide +kernel), ?_⟩
          refine iteT ?_
          refine ⟨_, rfl, c, _, rfl, rfl, _, rfl, ?_⟩
          rw [in_pm]
          by_cases hp : c = 43 ∨ c = 45
          · rw [decide_eq_true hp]
            refine iteT ?_
            refine ⟨(by show 2 ≤ sizeLine; decide), fun p5 nn5 => ?_⟩
            have e5 : upd H4 p5 (HO.tup [V.str "minus", V.str ""]) p5 = some (HO.tup [V.str "minus", V.str ""]) := upd_same
            have z5 : Same H (upd H4 p5 (HO.tup [V.str "minus", V.str ""])) := z4.trans (same_upd nn5)
            have t5 : Same H4 (upd H4 p5 (HO.tup [V.str "minus", V.str ""])) := same_upd nn5
            generalize upd H4 p5 (HO.tup [V.str "minus", V.str ""]) = H5 at e5 z5 t5 ⊢
            exact (q _ z5).2 (Md.mi) p5 (by first | (exfalso; omega) | (simp [nx, nxN, isPm, h32, h1, hp]; done) | (exfalso; omega) | (subst h32; rfl)) e5
          · rw [decide_eq_false hp]
            refine iteF ?_
            exact (q _ z4).1 (by first | (exfalso; omega) | (simp [nx, nxN, isPm, h32, h1, hp]; done) | (exfalso; omega) | (subst h32; rfl))
end

end Vf

set_option maxRecDepth 100000
set_option maxHeartbeats 8000000
namespace Vf
open PySem PySem.Spec PyProof.Rows L2
/-! ### the law's reader of a text -/
theorem acc_in (m : Md) : inV (V.str (mdN m)) [V.str "top", V.str "under", V.str "gap", V.str "x", V.str "power", V.str "end"] = acc m := by
  cases m with
  | tp s => show inV (V.str "top") [V.str "top", V.str "under", V.str "gap", V.str "x", V.str "power", V.str "end"] = true; decide +kernel
  | un s => show inV (V.str "under") [V.str "top", V.str "under", V.str "gap", V.str "x", V.str "power", V.str "end"] = true; decide +kernel
  | pw s => show inV (V.str "power") [V.str "top", V.str "under", V.str "gap", V.str "x", V.str "power", V.str "end"] = true; decide +kernel
  | _ => decide +kernel
theorem nx_len {m m' : Md} {c : Nat} (h : nx m c = some m') : (mdT m').length ≤ (mdT m).length + 1 := by
  unfold nx nxN at h
  split at h
  · cases m <;> first | (cases h; done) | (cases h; simp [mdT])
  · cases m <;> (simp only [] at h; repeat' split at h) <;> first | (cases h; done) | (cases h; simp [mdT])
def spCol : Sp := fun vs H Q _ => ∃ t : List Nat, vs = [.str (Tx t)] ∧ t.length ≤ 900 ∧ ∀ H', Same H H' → Q (.int ((Cl t .bg 0 : Nat) : Int)) H'
section
variable {P : Program} {w : World} {K : PySem.W.Frag} {mg : Str → Option Value} {base : Heap} {CT CP CR CN : Addr}
abbrev sCol : Stmt := topS 50
theorem scCol : FnScope ["_law_text", "_law_state", "_law_at", "_law_sign"] ["_law_text"] (defScope sCol) := ⟨rfl, rfl, rfl, by decide +kernel, rfl, by decide +kernel, by decide +kernel⟩
theorem ok_col {f : Addr} {fd : FuncData} (F : Fun K "_law_column" "_law_column" sCol f fd) (T : Bk mg) (henum : mg "enumerate" = none) (G__law_next : Df P w K mg base "_law_next" 1 ["_law_state", "_law_sign"] spNext) : FnOk P w K mg base CX0 2 f fd ["_law_text"] spCol := by
  refine F.ok scCol (fun vs H Q E h => ?_) (fun cdv A outer s0 H vs Q E hr h => ?_)
  · obtain ⟨t, rfl, _⟩ := h
    rfl
  · obtain ⟨t, rfl, hl, q⟩ := h
    refine ⟨_, (pss_cons (ps_set (i := 1) scCol.nd rfl (Or.inl rfl) (pe_tup (pa_cons pe_str (pa_cons pe_str pa_nil))))
  (pss_cons (ps_for PassesOwn.never rfl (pi_enumS (by rfl) henum (pa_cons (pv 0) pa_nil)) (pg_tup rfl (pgs_cons (pg_name (i := 2) scCol.nd rfl (Or.inl rfl)) (pgs_cons (pg_name (i := 3) scCol.nd rfl (Or.inl rfl)) pgs_nil)))
    (pss_cons (ps_set (i := 1) scCol.nd rfl (Or.inl rfl) (pe_call G__law_next.ok (hr.mono (by decide)) rfl G__law_next.m G__law_next.kp G__law_next.b .nil pass0 (pa_cons (pv 1) (pa_cons (pv 3) pa_nil))))
    (pss_one (ps_if (pt_cmpR op_isN (pv 1) pe_non (nomark _))
      (pss_one (ps_ret (pe_op op_add (pv 2) pe_int)))
      pss_nil))))
  (pss_one (ps_ret (pe_ifExp (pt_cmpR op_in_seq (pe_ix ix_tup (pv 1) pe_int (fun _ _ => rfl)) (pe_lst (pa_cons pe_str (pa_cons pe_str (pa_cons pe_str (pa_cons pe_str (pa_cons pe_str (pa_cons pe_str pa_nil))))))) (by rfl)) pe_int (pe_op op_add (pe_callB call_len_str (by rfl) T.len (by decide +kernel) (pa_cons (pv 0) pa_nil)) pe_int)))))), ?_⟩
    refine ⟨(by show 2 ≤ sizeLine; decide), fun a0 na0 => ?_⟩
    have e0 : upd H a0 (HO.tup [V.str "begin", V.str ""]) a0 = some (HO.tup [V.str "begin", V.str ""]) := upd_same
    have s0 : Same H (upd H a0 (HO.tup [V.str "begin", V.str ""])) := same_upd na0
    generalize upd H a0 (HO.tup [V.str "begin", V.str ""]) = H0 at e0 s0 ⊢
    refine ⟨_, rfl, _, rfl, for_enumS (fun i σ H' => ∃ (v2 v3 : Option V) (a : Addr) (m : Md), σ = [some (.str (Tx t)), some (.ref a), v2, v3] ∧ Same H H' ∧ MdAt H' a m ∧ (mdT m).length ≤ i ∧ Cl t .bg 0 = Cl t m i) ⟨none, none, a0, .bg, rfl, s0, (by show _ = some (HO.tup [V.str "begin", V.str (Tx [])]); rw [← lit_empty]; exact e0), Nat.le_refl _, rfl⟩ ?_ ?_⟩
    · rintro i c T1 σ H1 hc ⟨v2, v3, a, m, rfl, s1, hs, hm, ec⟩ nT
      rw [tx_at] at hc
      have hi := (List.getElem?_eq_some_iff.mp hc).1
      refine ⟨T1, _, rfl, SqT.of upd_same, rfl, _, _, rfl, _, _, rfl, rfl, ?_⟩
      have s2 : Same H1 (upd H1 T1 (.tup [.int (i : Nat), .str ⟨#[c]⟩])) := same_upd nT
      generalize upd H1 T1 (.tup [.int (i : Nat), .str ⟨#[c]⟩]) = H2 at s2 ⊢
      refine ⟨_, rfl, _, rfl, a, c, m, rfl, s2 _ _ hs, by omega, fun H3 s3 => ⟨fun hn => ?_, fun m' p hn hp => ?_⟩⟩
      · refine ⟨_, rfl, rfl, _, rfl, ?_⟩
        rw [decide_eq_true rfl]
        refine iteT ?_
        refine ⟨_, rfl, _, _, rfl, rfl, ?_⟩
        have z := q H3 (s1.trans (s2.trans s3))
        rw [ec, cl_fail hc hn] at z
        exact z
      · refine ⟨_, rfl, rfl, _, rfl, ?_⟩
        rw [decide_eq_false (fun z => by cases z)]
        refine iteF ?_
        have := nx_len hn
        exact ⟨_, _, p, m', rfl, s1.trans (s2.trans s3), hp, by omega, ec.trans (cl_step hc hn)⟩
    · rintro σ H1 ⟨v2, v3, a, m, rfl, s1, hs, hm, ec⟩
      have hz : (Tx t).cps.size = t.length := tx_len t
      rw [hz] at ec
      rw [cl_end (List.getElem?_eq_none (Nat.le_refl _))] at ec
      refine ⟨_, rfl, a, _, _, V.str (mdN m), rfl, rfl, SqT.of hs, at_of (j := 0) rfl rfl, ?_⟩
      refine ⟨(by show 6 ≤ sizeLine; decide), fun l nl => ?_⟩
      have el : upd H1 l (HO.lst [V.str "top", V.str "under", V.str "gap", V.str "x", V.str "power", V.str "end"]) l = some (HO.lst [V.str "top", V.str "under", V.str "gap", V.str "x", V.str "power", V.str "end"]) := upd_same
      have s2 : Same H1 (upd H1 l (HO.lst [V.str "top", V.str "under", V.str "gap", V.str "x", V.str "power", V.str "end"])) := same_upd nl
      generalize upd H1 l (HO.lst [V.str "top", V.str "under", V.str "gap", V.str "x", V.str "power", V.str "end"]) = H2 at el s2 ⊢
      refine ⟨l, _, rfl, .inl (SqL.of el), rfl, rfl, _, rfl, ?_⟩
      rw [if_neg Bool.false_ne_true, acc_in]
      have z := q H2 (s1.trans s2)
      rw [ec] at z
      cases ha : acc m with
      | true =>
        rw [ha] at z
        refine iteT ?_
        exact z
      | false =>
        rw [ha] at z
        refine iteF ?_
        refine ⟨_, rfl, Tx t, rfl, by rw [tx_len, sizeLine_eq]; omega, _, _, rfl, rfl, ?_⟩
        rw [tx_len]
        exact z
end

end Vf

set_option maxRecDepth 100000
set_option maxHeartbeats 8000000
namespace Vf
open PySem PySem.Spec PyProof.Rows L2
open LamX (ExtN Tabs TabS)
theorem par_two {ta tb : TE} {i j : Nat} {rest : TS} {D : Ends} {σ : L2.St} {H : Hp} (h : ta σ H fun v H1 => tb σ H1 fun w H2 => rest D ((σ.set i (some v)).set j (some w)) H2) : tSeq (tPar i j (tCons ta (tCons tb tNil))) rest D σ H := by
  have e : (fun v H1 => tb σ H1 fun w H2 => rest D ((σ.set i (some v)).set j (some w)) H2) = (fun v H1 => tb σ H1 fun w H2 => rest D ((σ.set i (some v)).set j (some w)) H2) := rfl
  show ta σ H fun v H1 => tb σ H1 fun w H2 => ∃ x y, [v, w] = [x, y] ∧ rest D ((σ.set i (some x)).set j (some y)) H2
  have f : (fun v H1 => tb σ H1 fun w H2 => ∃ x y, [v, w] = [x, y] ∧ rest D ((σ.set i (some x)).set j (some y)) H2) = (fun v H1 => tb σ H1 fun w H2 => rest D ((σ.set i (some v)).set j (some w)) H2) := by
    funext v H1
    congr 1
    funext w H2
    refine propext ⟨fun ⟨x, y, e, h⟩ => ?_, fun h => ⟨v, w, rfl, h⟩⟩
    cases e
    exact h
  rw [f]
  exact h
def sgs : Str := "0123456789 x^*/+-.X\n\t"
theorem sgs_len : (Str.ofString "0123456789 x^*/+-.X\n\t").length = 21 := by decide +kernel
theorem pl_two (s : Str) (n : Int) : (PyData.tuple [.str s, .int n]).plain = true := by simp [PyData.plain, PyData.plainAll]
theorem dp_two (s : Str) (n : Int) : (PyData.tuple [.str s, .int n]).depth ≤ 60 := by simp [PyData.depth, PyData.depthAll]
/-- the first texts of a lap -/
theorem len_of {s : Str} {n : Nat} (h : s.length ≤ n) : ∃ l, s = Tx l ∧ l.length ≤ n := by
  obtain ⟨l, rfl⟩ := tx_of s
  rw [tx_len] at h
  exact ⟨l, rfl, h⟩
def nLaw : List Str := ["_law_script", "_law_pen_here", "_law_signs", "_law_lap", "_law_some", "_law_text", "_law_turn", "_law_at", "_law_sign", "_law_piece", "_law_k", "_law_column_here", "_law_odd"]
abbrev sLaw : Stmt := topS 51
theorem scLaw : FnScope ["_law_script", "_law_pen_here", "_law_signs", "_law_lap", "_law_some", "_law_text", "_law_turn", "_law_at", "_law_sign", "_law_piece", "_law_k", "_law_column_here", "_law_odd"] ["_law_script"] (defScope sLaw) := ⟨rfl, rfl, rfl, by decide +kernel, rfl, by decide +kernel, by decide +kernel⟩
/-- where a lap stands: the text, the pen, the tables -/
def St8 (a p lc Pt : Addr) (iv B : Int) (L : Nat) : L2.St → Hp → Prop := fun σ H => ∃ (v4 v6 v7 v8 v9 v10 v11 v12 : Option V) (t : List Nat), σ = [some (.ref a), some (.ref p), some (.str "0123456789 x^*/+-.X\n\t"), some (.int iv), v4, some (.str (Tx t)), v6, v7, v8, v9, v10, v11, v12] ∧ Pen H p lc B ∧ Tabs (Ts Pt) H ∧ t.length ≤ L
section
variable {P : Program} {w : World} {K : PySem.W.Frag} {mg : Str → Option Value} {base : Heap} {C : Nat → Addr}
theorem ok_law {f : Addr} {fd : FuncData} (F : Fun K "law" "law" sLaw f fd) (T : Bk mg) (W : Wc K mg C) (hm1 : M1 base) (c Pt : Addr) (hfc : fd.code = .ref c) (hTB : LamX.TabB base mg c Pt) (Y : Yy K mg)
    (G__law_pen : Df P w K mg base "_law_pen" 1 ["_law_script"] (spPen K)) (G__law_draw : Df P w K mg base "_law_draw" 1 ["_law_pen_here", "_law_many"] spDraw) (G__law_pick : Df P w K mg base "_law_pick" 2 ["_law_pen_here", "_law_some"] spPick)
    (G__law_column : Df P w K mg base "_law_column" 2 ["_law_text"] spCol) (G_poly_of : Dx P w K mg base "poly_of" 8 ["text"] (spPolyOf K (C 0))) : FnG P w K mg base CX0 12 f fd ["_law_script"] (spLaw K Pt) := by
  refine fnG_of1 F scLaw (fun vs H Q E h => ?_) (fun cdv A outer s H0 vs Q E hgu hr hcd h => ?_)
  · obtain ⟨a, ns, rfl, _⟩ := h
    rfl
  · obtain ⟨a, ns, rfl, hS, hns, hPt, k⟩ := h
    have hu64 := hr.units
    have hu160 : (A.deeper (envOfC "law" (defScope sLaw) s.heap.objs.size f cdv)).units + 160 < cLine := by have := hr.un; omega
    have hcd : cdv = .ref c := hcd.symm.trans hfc
    refine ⟨_, (pss_cons (ps_set (i := 1) scLaw.nd rfl (Or.inr rfl) (pe_call G__law_pen.ok (hr.mono (by decide)) rfl G__law_pen.m G__law_pen.kp G__law_pen.b .nil pass0 (pa_cons (pv 0) pa_nil)))
  (pss_cons (ps_set (i := 2) scLaw.nd rfl (Or.inr rfl) pe_str)
  (pss_cons (ps_for PassesOwn.never rfl (pi_range1 (by rfl) T.range (pa_cons pe_int pa_nil)) (pg_name (i := 3) scLaw.nd rfl (Or.inl rfl))
    (pss_cons (ps_set (i := 4) scLaw.nd rfl (Or.inl rfl) (pe_lst (pa_cons pe_str (pa_cons pe_str (pa_cons pe_str (pa_cons pe_str (pa_cons pe_str (pa_cons pe_str (pa_cons (pe_op op_add_str (pe_op op_repN pe_str pe_int) pe_str) (pa_cons pe_str pa_nil))))))))))
    (pss_cons (ps_set (i := 5) scLaw.nd rfl (Or.inr rfl) (pe_call G__law_pick.ok (hr.mono (by decide)) rfl G__law_pick.m G__law_pick.kp G__law_pick.b .nil pass0 (pa_cons (pv 1) (pa_cons (pv 4) pa_nil))))
    (C8.pss_cut (ps_for PassesOwn.never rfl (pi_range1 (by rfl) T.range (pa_cons (pe_call G__law_draw.ok (hr.mono (by decide)) rfl G__law_draw.m G__law_draw.kp G__law_draw.b .nil pass0 (pa_cons (pv 1) (pa_cons pe_int pa_nil))) pa_nil)) (pg_name (i := 6) scLaw.nd rfl (Or.inl rfl))
      (pss_cons (ps_par (i := 7) (j := 8) (by rfl) scLaw.nd rfl rfl (by decide) rfl rfl (pa_cons (pe_call G__law_draw.ok (hr.mono (by decide)) rfl G__law_draw.m G__law_draw.kp G__law_draw.b .nil pass0 (pa_cons (pv 1) (pa_cons (pe_op op_add (pe_callB call_len_str (by rfl) T.len (by decide +kernel) (pa_cons (pv 5) pa_nil)) pe_int) pa_nil))) (pa_cons (pe_ix ix_str (pv 2) (pe_call G__law_draw.ok (hr.mono (by decide)) rfl G__law_draw.m G__law_draw.kp G__law_draw.b .nil pass0 (pa_cons (pv 1) (pa_cons (pe_callB call_len_str (by rfl) T.len (by decide +kernel) (pa_cons (pv 2) pa_nil)) pa_nil))) (fun _ _ => rfl)) pa_nil)) (by rfl))
      (pss_cons (ps_set (i := 9) scLaw.nd rfl (Or.inl rfl) (pe_call G__law_pick.ok (hr.mono (by decide)) rfl G__law_pick.m G__law_pick.kp G__law_pick.b .nil pass0 (pa_cons (pv 1) (pa_cons (pe_lst (pa_cons (pv 8) (pa_cons (pv 8) (pa_cons pe_str (pa_cons pe_str (pa_cons pe_str (pa_cons pe_str (pa_cons pe_str (pa_cons pe_str pa_nil))))))))) pa_nil))))
      (pss_one (ps_set (i := 5) scLaw.nd rfl (Or.inr rfl) (pe_op op_add_str (pe_op op_add_str (pe_slice sl_str (pv 5) po_none (po_some (pv 7))) (pv 9)) (pe_slice sl_str (pv 5) (po_some (pe_op op_add (pv 7) (pe_call G__law_pick.ok (hr.mono (by decide)) rfl G__law_pick.m G__law_pick.kp G__law_pick.b .nil pass0 (pa_cons (pv 1) (pa_cons (pe_lst (pa_cons pe_int (pa_cons pe_int (pa_cons pe_int (pa_cons pe_int (pa_cons pe_int pa_nil)))))) pa_nil))))) po_none)))))))
    (C8.pss_cut (ps_if (pt_cmpR op_eq (pe_call G__law_draw.ok (hr.mono (by decide)) rfl G__law_draw.m G__law_draw.kp G__law_draw.b .nil pass0 (pa_cons (pv 1) (pa_cons pe_int pa_nil))) pe_int (nomark _))
      (pss_one (ps_set (i := 5) scLaw.nd rfl (Or.inr rfl) (pe_slice sl_str (pv 5) po_none (po_some (pe_call G__law_draw.ok (hr.mono (by decide)) rfl G__law_draw.m G__law_draw.kp G__law_draw.b .nil pass0 (pa_cons (pv 1) (pa_cons (pe_op op_add (pe_callB call_len_str (by rfl) T.len (by decide +kernel) (pa_cons (pv 5) pa_nil)) pe_int) pa_nil)))))))
      pss_nil)
    (C8.pss_cut (ps_if (pt_cmpR op_eq (pe_call G__law_draw.ok (hr.mono (by decide)) rfl G__law_draw.m G__law_draw.kp G__law_draw.b .nil pass0 (pa_cons (pv 1) (pa_cons pe_int pa_nil))) pe_int (nomark _))
      (pss_one (ps_set (i := 5) scLaw.nd rfl (Or.inr rfl) (pe_join pe_str (pe_lc (own := [("_law_k", 10)]) (g := (gName 10)) (tt := tYes) rfl scLaw.nd (pi_range1 (by rfl) T.range (pa_cons (pe_call G__law_draw.ok (hr.mono (by decide)) rfl G__law_draw.m G__law_draw.kp G__law_draw.b .nil pass0 (pa_cons (pv 1) (pa_cons pe_int pa_nil))) pa_nil)) (blkOk_by (N := ["_law_script", "_law_pen_here", "_law_signs", "_law_lap", "_law_some", "_law_text", "_law_turn", "_law_at", "_law_sign", "_law_piece", "_law_k", "_law_column_here", "_law_odd"]) (sc := defScope sLaw) (by decide +kernel)) (fun _ _ _ _ _ => pg_name (i := 10) scLaw.nd rfl (Or.inl rfl)) (fun _ _ _ _ _ => pts_nil) (fun _ _ _ _ _ => (pe_ix ix_str (pv 2) (pe_call G__law_draw.ok (hr.mono (by decide)) rfl G__law_draw.m G__law_draw.kp G__law_draw.b .nil pass0 (pa_cons (pv 1) (pa_cons (pe_callB call_len_str (by rfl) T.len (by decide +kernel) (pa_cons (pv 2) pa_nil)) pa_nil))) (fun _ _ => rfl)))))))
      pss_nil)
    (pss_cons (ps_set (i := 11) scLaw.nd rfl (Or.inl rfl) (pe_call G__law_column.ok (hr.mono (by decide)) rfl G__law_column.m G__law_column.kp G__law_column.b .nil pass0 (pa_cons (pv 5) pa_nil)))
    (pss_one (ps_if (pt_cmpR (op_neT hu64 hm1) (LamX.pe_lamcall (T := Ts Pt) (TT := TWhy K C) (k := 9) rfl Y.m Y.kp Y.lk Y.hc Y.b scWhy rfl (.inl rfl) (why_gives W hgu hu160 hm1) hTB hcd (by rw [qual_eq]; exact ts_mem Pt) (by rw [qual_eq]; exact ts_only Pt) (hr.mono (by decide)) (show LamX.LamS (defScope sLaw) _ from LamX.lamS_by (by decide +kernel)) rfl (fun _ _ _ _ _ => rfl) (fun A' out' s' H' E' f' c' hr' => (pe_call G_poly_of.ok (hr'.mono (by decide)) rfl G_poly_of.m G_poly_of.kp G_poly_of.b .nil (E := E') (passes_call (takes_of rfl rfl rfl rfl) (fun _ _ _ _ h => h)) (pa_cons (pv 5) pa_nil)))) (pe_ifExp (pt_cmpR op_eq (pv 11) pe_int (nomark _)) pe_non (pe_tup (pa_cons pe_str (pa_cons (pv 11) pa_nil)))) (nomark _))
      (pss_one (ps_ret pe_bl))
      pss_nil)))))))))
  (pss_cons (ps_set (i := 12) scLaw.nd rfl (Or.inr rfl) (pe_call G__law_pick.ok (hr.mono (by decide)) rfl G__law_pick.m G__law_pick.kp G__law_pick.b .nil pass0 (pa_cons (pv 1) (pa_cons (pe_lst (pa_cons pe_non (pa_cons pe_int (pa_cons pe_bl (pa_cons (pe_lst (pa_cons pe_str pa_nil)) (pa_cons (pe_tup (pa_cons pe_str pa_nil)) (pa_cons (pe_disp (pps_cons pe_str pe_int pps_nil) (by rfl) (by rfl) (fun z => by cases z) (by decide)) pa_nil))))))) pa_nil))))
  (pss_cons (ps_if (pt_cmpR (op_neT hu64 hm1) (LamX.pe_lamcall (T := Ts Pt) (TT := TWhy K C) (k := 9) rfl Y.m Y.kp Y.lk Y.hc Y.b scWhy rfl (.inl rfl) (why_gives W hgu hu160 hm1) hTB hcd (by rw [qual_eq]; exact ts_mem Pt) (by rw [qual_eq]; exact ts_only Pt) (hr.mono (by decide)) (show LamX.LamS (defScope sLaw) _ from LamX.lamS_by (by decide +kernel)) rfl (fun _ _ _ _ _ => rfl) (fun A' out' s' H' E' f' c' hr' => (pe_call G_poly_of.ok (hr'.mono (by decide)) rfl G_poly_of.m G_poly_of.kp G_poly_of.b .nil (E := E') (passes_call (takes_of rfl rfl rfl rfl) (fun _ _ _ _ h => h)) (pa_cons (pv 12) pa_nil)))) (pe_tup (pa_cons pe_str (pa_cons pe_int pa_nil))) (nomark _))
    (pss_one (ps_ret pe_bl))
    pss_nil)
  (pss_one (ps_ret (pe_cmpR (op_eqT hu64 hm1) (LamX.pe_lamcall (T := Ts Pt) (TT := TWhy K C) (k := 9) rfl Y.m Y.kp Y.lk Y.hc Y.b scWhy rfl (.inl rfl) (why_gives W hgu hu160 hm1) hTB hcd (by rw [qual_eq]; exact ts_mem Pt) (by rw [qual_eq]; exact ts_only Pt) (hr.mono (by decide)) (show LamX.LamS (defScope sLaw) _ from LamX.lamS_by (by decide +kernel)) rfl (fun _ _ _ _ _ => rfl) (fun A' out' s' H' E' f' c' hr' => (pe_call G_poly_of.ok (hr'.mono (by decide)) rfl G_poly_of.m G_poly_of.kp G_poly_of.b .nil (E := E') (passes_call (takes_of rfl rfl rfl rfl) (fun _ _ _ _ h => h)) (pa_cons pe_str pa_nil)))) (pe_tup (pa_cons pe_str (pa_cons pe_int pa_nil))) (nomark _))))))))), ?_⟩
    refine ⟨_, rfl, a, ns, rfl, hS, hns, fun p lc H1 s1 np nlc hP => ?_⟩
    have T1 : Tabs (Ts Pt) H1 := fun y hy => by
      rw [List.mem_singleton.mp hy]
      exact TabS.nil (s1 _ _ hPt)
    refine ⟨12, rfl, by decide, by decide, for_range (lo := 0) (n := 12) (fun i σ H => ∃ v3 v4 v5 v6 v7 v8 v9 v10 v11 v12 : Option V, σ = [some (.ref a), some (.ref p), some (.str "0123456789 x^*/+-.X\n\t"), v3, v4, v5, v6, v7, v8, v9, v10, v11, v12] ∧ Pen H p lc (100 * i) ∧ Tabs (Ts Pt) H)
      ⟨none, none, none, none, none, none, none, none, none, none, rfl, hP.more (by decide), T1⟩ ?_ ?_⟩
    · rintro i σ H ih ⟨v3, v4, v5, v6, v7, v8, v9, v10, v11, v12, rfl, hP0, T0⟩
      -- the texts
      refine ⟨_, _, rfl, rfl, (by decide +kernel), by decide, by decide, fun z1 hz1 => ⟨_, _, rfl, rfl, (by rw [hz1, sizeLine_eq]; decide +kernel), ?_⟩⟩
      refine ⟨(by show 8 ≤ sizeLine; decide), fun l1 nl1 => ?_⟩
      have lz : (z1 ++ Str.ofString "*x").length ≤ 60 := by
        rw [Str.length_append, hz1]
        decide +kernel
      generalize z1 ++ Str.ofString "*x" = z2 at lz nl1 ⊢
      obtain ⟨xs, exs⟩ : ∃ xs, xs = [V.str "1 - 1/2*x + x^3", V.str "x", V.str "-x^12", V.str "3 * x ^2", V.str "0", V.str "7/3*x^10 - x", V.str z2, V.str "x^1 + x^0 - 5"] := ⟨_, rfl⟩
      have lxs : xs.length = 8 := by rw [exs]; rfl
      have hxs : ∀ x ∈ xs, ∃ l, x = V.str (Tx l) ∧ l.length ≤ 60 := by
        intro x hx
        rw [exs] at hx
        simp only [List.mem_cons, List.not_mem_nil, or_false] at hx
        have go : ∀ s : Str, s.length ≤ 60 → ∃ l, V.str s = V.str (Tx l) ∧ l.length ≤ 60 := fun s h => by
          obtain ⟨l, rfl, h⟩ := len_of h
          exact ⟨l, rfl, h⟩
        rcases hx with rfl | rfl | rfl | rfl | rfl | rfl | rfl | rfl
        · exact go _ (by decide +kernel)
        · exact go _ (by decide +kernel)
        · exact go _ (by decide +kernel)
        · exact go _ (by decide +kernel)
        · exact go _ (by decide +kernel)
        · exact go _ (by decide +kernel)
        · exact go _ lz
        · exact go _ (by decide +kernel)
      rw [← exs]
      have el1 : upd H l1 (HO.lst xs) l1 = some (HO.lst xs) := upd_same
      have sl1 : Same H (upd H l1 (HO.lst xs)) := same_upd nl1
      have l1p := (hP0.ne_new nl1).1
      generalize upd H l1 (HO.lst xs) = H2 at el1 sl1 ⊢
      have hP2 := hP0.same sl1
      have T2 := T0.ext sl1
      refine ⟨_, rfl, _, rfl, p, lc, l1, _, xs, rfl, hP2, by omega, el1, l1p, by omega, by omega, fun x H3 hx hP3 k3 => ?_⟩
      obtain ⟨t0, rfl, ht0⟩ := hxs x hx
      have T3 := tabs_kp hP2 k3 T2
      clear hxs hx exs
      -- the changes
      refine ⟨St8 a p lc Pt (0 + (i : Int)) (100 * i + 30) 70, ?_, ?_⟩
      · refine ⟨_, rfl, p, lc, _, 4, rfl, hP3, by omega, by decide, by decide, fun z H4 z0 z4 hP4 k4 => ?_⟩
        have T4 := tabs_kp hP3 k4 T3
        refine ⟨z, rfl, by omega, by omega, for_range (lo := 0) (n := z.toNat) (fun j σ H => St8 a p lc Pt (0 + (i : Int)) (100 * i + 2 + 4 * j) (60 + 3 * j) σ H) ⟨_, _, _, _, _, _, _, _, t0, rfl, hP4.more (by omega), T4, by omega⟩ ?_ ?_⟩
        · rintro j σ H5 hj ⟨w4, w6, w7, w8, w9, w10, w11, w12, t, rfl, hP5, T5, ht⟩
          refine par_two ?_
          have bigt : (Tx t).length ≤ sizeLine := by rw [tx_len, sizeLine_eq]; omega
          have tl := tx_len t
          refine ⟨_, rfl, _, rfl, Tx t, rfl, bigt, _, _, rfl, rfl, p, lc, _, _, rfl, hP5, by omega, by omega, by omega, fun z6 H6 z60 z61 hP6 k6 => ?_⟩
          have T6 := tabs_kp hP5 k6 T5
          have big21 : (Str.ofString "0123456789 x^*/+-.X\n\t").length ≤ sizeLine := by rw [sgs_len, sizeLine_eq]; omega
          refine ⟨_, rfl, _, rfl, _, rfl, _, rfl, big21, p, lc, _, _, rfl, hP6, by omega, (by rw [sgs_len]; decide), (by rw [sgs_len]; decide), fun z7 H7 z70 z71 hP7 k7 => ?_⟩
          have T7 := tabs_kp hP6 k7 T6
          obtain ⟨c7, hc7⟩ := at_txt _ z70 z71
          refine ⟨_, _, c7, rfl, rfl, big21, hc7, ?_⟩
          -- the piece
          refine ⟨_, rfl, _, rfl, _, rfl, (by show 8 ≤ sizeLine; decide), fun l8 nl8 => ?_⟩
          obtain ⟨xs8, ex8⟩ : ∃ xs, xs = [V.str ⟨#[c7]⟩, V.str ⟨#[c7]⟩, V.str "", V.str "x^", V.str "12", V.str "--", V.str " + ", V.str "*x"] := ⟨_, rfl⟩
          have lx8 : xs8.length = 8 := by rw [ex8]; rfl
          have hx8 : ∀ x ∈ xs8, ∃ l, x = V.str (Tx l) ∧ l.length ≤ 3 := by
            intro x hx
            rw [ex8] at hx
            simp only [List.mem_cons, List.not_mem_nil, or_false] at hx
            have go : ∀ s : Str, s.length ≤ 3 → ∃ l, V.str s = V.str (Tx l) ∧ l.length ≤ 3 := fun s h => by
              obtain ⟨l, rfl, h⟩ := len_of h
              exact ⟨l, rfl, h⟩
            rcases hx with rfl | rfl | rfl | rfl | rfl | rfl | rfl | rfl
            · exact ⟨[c7], rfl, by show 1 ≤ 3; decide⟩
            · exact ⟨[c7], rfl, by show 1 ≤ 3; decide⟩
            · exact go _ (by decide +kernel)
            · exact go _ (by decide +kernel)
            · exact go _ (by decide +kernel)
            · exact go _ (by decide +kernel)
            · exact go _ (by decide +kernel)
            · exact go _ (by decide +kernel)
          rw [← ex8]
          have el8 : upd H7 l8 (HO.lst xs8) l8 = some (HO.lst xs8) := upd_same
          have sl8 : Same H7 (upd H7 l8 (HO.lst xs8)) := same_upd nl8
          have l8p := (hP7.ne_new nl8).1
          generalize upd H7 l8 (HO.lst xs8) = H8 at el8 sl8 ⊢
          have hP8 := hP7.same sl8
          have T8 := T7.ext sl8
          refine ⟨p, lc, l8, _, xs8, rfl, hP8, by omega, el8, l8p, by omega, by omega, fun x9 H9 hx9 hP9 k9 => ?_⟩
          obtain ⟨t9, rfl, ht9⟩ := hx8 x9 hx9
          have T9 := tabs_kp hP8 k9 T8
          clear hx8 hx9 ex8
          -- the text
          refine ⟨_, rfl, _, rfl, _, rfl, ⟨Tx t, rfl, bigt, ?_⟩⟩
          rw [tx_upto t (m := z6.toNat) (by omega)]
          refine ⟨_, rfl, Tx (t.take z6.toNat), Tx t9, rfl, rfl, (by rw [tx_len, tx_len, List.length_take, sizeLine_eq]; omega), ?_⟩
          refine ⟨_, rfl, _, rfl, _, rfl, (by show 5 ≤ sizeLine; decide), fun l10 nl10 => ?_⟩
          obtain ⟨xs10, ex10⟩ : ∃ xs, xs = [V.int 0, V.int 0, V.int 1, V.int 1, V.int 3] := ⟨_, rfl⟩
          have lx10 : xs10.length = 5 := by rw [ex10]; rfl
          have hx10 : ∀ x ∈ xs10, ∃ n : Int, x = V.int n ∧ 0 ≤ n := by
            intro x hx
            rw [ex10] at hx
            simp only [List.mem_cons, List.not_mem_nil, or_false] at hx
            rcases hx with rfl | rfl | rfl | rfl | rfl
            · exact ⟨_, rfl, by decide⟩
            · exact ⟨_, rfl, by decide⟩
            · exact ⟨_, rfl, by decide⟩
            · exact ⟨_, rfl, by decide⟩
            · exact ⟨_, rfl, by decide⟩
          rw [← ex10]
          have el10 : upd H9 l10 (HO.lst xs10) l10 = some (HO.lst xs10) := upd_same
          have sl10 : Same H9 (upd H9 l10 (HO.lst xs10)) := same_upd nl10
          have l10p := (hP9.ne_new nl10).1
          generalize upd H9 l10 (HO.lst xs10) = H10 at el10 sl10 ⊢
          have hP10 := hP9.same sl10
          have T10 := T9.ext sl10
          refine ⟨p, lc, l10, _, xs10, rfl, hP10, by omega, el10, l10p, by omega, by omega, fun x11 H11 hx11 hP11 k11 => ?_⟩
          obtain ⟨n11, rfl, hn11⟩ := hx10 x11 hx11
          have T11 := tabs_kp hP10 k11 T10
          refine ⟨_, _, rfl, rfl, _, rfl, ⟨Tx t, rfl, bigt, ?_⟩⟩
          rw [tx_from t (m := (z6 + n11).toNat) (by omega), tx_app]
          refine ⟨_, _, rfl, rfl, (by rw [tx_len, tx_len, List.length_append, List.length_take, List.length_drop, sizeLine_eq]; omega), ?_⟩
          rw [tx_app]
          exact ⟨_, _, _, _, _, _, _, _, _, rfl, hP11.more (by omega), T11, by rw [List.length_append, List.length_append, List.length_take, List.length_drop]; omega⟩
        · rintro σ H5 ⟨w4, w6, w7, w8, w9, w10, w11, w12, t, rfl, hP5, T5, ht⟩
          exact ⟨_, _, _, _, _, _, _, _, t, rfl, hP5.more (by omega), T5, by omega⟩
      · rintro σ H4 ⟨w4, w6, w7, w8, w9, w10, w11, w12, t, rfl, hP4, T4, ht⟩
        clear hP3 T3 k3 hP2 T2
        refine ⟨St8 a p lc Pt (0 + (i : Int)) (100 * i + 40) 70, ?_, ?_⟩
        · refine ⟨_, rfl, p, lc, _, 5, rfl, hP4, by omega, by decide, by decide, fun z H5 z0 z5 hP5 k5 => ?_⟩
          have T5 := tabs_kp hP4 k5 T4
          refine ⟨rfl, _, rfl, ?_⟩
          by_cases hz : z = 0
          · rw [decide_eq_true (by rw [hz])]
            refine iteT ?_
            have bigt : (Tx t).length ≤ sizeLine := by rw [tx_len, sizeLine_eq]; omega
            have tl := tx_len t
            refine ⟨_, rfl, _, rfl, _, rfl, Tx t, rfl, bigt, _, _, rfl, rfl, p, lc, _, _, rfl, hP5, by omega, by omega, by omega, fun z6 H6 z60 z61 hP6 k6 => ?_⟩
            have T6 := tabs_kp hP5 k6 T5
            refine ⟨_, rfl, ⟨Tx t, rfl, bigt, ?_⟩⟩
            rw [tx_upto t (m := z6.toNat) (by omega)]
            exact ⟨_, _, _, _, _, _, _, _, _, rfl, hP6.more (by omega), T6, by rw [List.length_take]; omega⟩
          · rw [decide_eq_false (fun y => hz (V.int.inj y))]
            refine iteF ?_
            exact ⟨_, _, _, _, _, _, _, _, t, rfl, hP5.more (by omega), T5, ht⟩
        · clear hP4 T4 ht
          rintro σ H4 ⟨w4, w6, w7, w8, w9, w10, w11, w12, t, rfl, hP4, T4, ht⟩
          refine ⟨St8 a p lc Pt (0 + (i : Int)) (100 * i + 60) 70, ?_, ?_⟩
          · refine ⟨_, rfl, p, lc, _, 6, rfl, hP4, by omega, by decide, by decide, fun z H5 z0 z5 hP5 k5 => ?_⟩
            have T5 := tabs_kp hP4 k5 T4
            refine ⟨rfl, _, rfl, ?_⟩
            by_cases hz : z = 0
            · rw [decide_eq_true (by rw [hz])]
              refine iteT ?_
              refine ⟨⟨_, rfl⟩, _, rfl, p, lc, _, 5, rfl, hP5, by omega, by decide, by decide, fun z6 H6 z60 z61 hP6 k6 => ?_⟩
              have T6 := tabs_kp hP5 k6 T5
              refine ⟨_, rfl, by omega, by omega, fun D hD => lc_range (lo := 0) (n := z6.toNat) (fun k H' => Kp p H6 H' ∧ Pen H' p lc (100 * i + 42 + k) ∧ Tabs (Ts Pt) H' ∧ ∃ ys : List Str, H' D = some (.lst (ys.map V.str)) ∧ (∀ y ∈ ys, y.length = 1) ∧ ys.length = k) ?_ ?_ ?_⟩
              · exact ⟨Kp.of (same_upd hD), (hP6.same (same_upd hD)).more (by omega), T6.ext (same_upd hD), [], upd_same, (fun y hy => by cases hy), rfl⟩
              · rintro k H' hk ⟨kk, hP', T', ys, eD, hy, hl⟩
                obtain ⟨d1, d2⟩ := hP6.ne_new hD
                refine ⟨rfl, ?_⟩
                have big21 : (Str.ofString "0123456789 x^*/+-.X\n\t").length ≤ sizeLine := by rw [sgs_len, sizeLine_eq]; omega
                refine ⟨_, rfl, _, rfl, _, rfl, _, rfl, big21, p, lc, _, _, rfl, hP', by omega, (by rw [sgs_len]; decide), (by rw [sgs_len]; decide), fun z7 H7 z70 z71 hP7 k7 => ?_⟩
                obtain ⟨c7, hc7⟩ := at_txt _ z70 z71
                refine ⟨_, _, c7, rfl, rfl, big21, hc7, ?_⟩
                have eD7 := k7 _ _ d1 eD
                refine ⟨_, eD7, (by rw [List.length_map, sizeLine_eq]; omega), (fun b o nb eb => ?_), (hP7.put upd_away d1 d2).more (by omega), tabs_lst eD7 upd_away (tabs_kp hP' k7 T'), ys ++ [⟨#[c7]⟩], ?_, fun y hy' => ?_, by rw [List.length_append, hl]; rfl⟩
                · rw [upd_ne (ne_of_none eb hD)]
                  exact k7 _ _ nb (kk _ _ nb eb)
                · rw [upd_same, List.map_append]
                  rfl
                · rcases List.mem_append.mp hy' with h | h
                  · exact hy y h
                  · rw [List.mem_singleton.mp h]
                    rfl
              · rintro H' ⟨kk, hP', T', ys, eD, hy, hl⟩
                have sum : (ys.map (·.length)).sum = ys.length := by
                  clear eD hl
                  induction ys with
                  | nil => rfl
                  | cons y ys ih =>
                    rw [List.map_cons, List.sum_cons, ih fun x hx => hy x (List.mem_cons_of_mem _ hx), hy y (List.mem_cons_self ..), List.length_cons]
                    omega
                have l0 : (Str.ofString "").length = 0 := by decide +kernel
                refine ⟨_, D, ys, rfl, rfl, .inl (SqL.of eD), (by rw [sum, l0]; omega), ?_⟩
                obtain ⟨t8, e8, h8⟩ := len_of (s := Txt.join (Str.ofString "") ys) (n := 70) (Nat.le_trans (join_len _ _ l0) (by rw [sum]; omega))
                rw [e8]
                exact ⟨_, _, _, _, _, _, _, _, t8, rfl, hP'.more (by omega), T', h8⟩
            · rw [decide_eq_false (fun y => hz (V.int.inj y))]
              refine iteF ?_
              exact ⟨_, _, _, _, _, _, _, _, t, rfl, hP5.more (by omega), T5, ht⟩
          · clear hP4 T4 ht
            rintro σ H4 ⟨w4, w6, w7, w8, w9, w10, w11, w12, t, rfl, hP4, T4, ht⟩
            refine ⟨_, rfl, t, rfl, by omega, fun H5 s5 => ?_⟩
            have hP5 := hP4.same s5
            have T5 := T4.ext s5
            -- what is raised
            refine ⟨T5, fun H6 e6 T6 => ?_⟩
            have hP6 := hP5.n e6
            refine ⟨_, rfl, .str (Tx t), .str (Tx t), rfl, .str _, fun t' e' => ?_, fun z => absurd rfl (z t)⟩
            obtain rfl := tx_inj (V.str.inj e')
            refine ⟨by omega, fun hne dd H7 s7 n7 e7 => .inr (.inr ⟨rfl, dd, _, rfl, e7, fun tt H8 s8 e8 => ?_⟩), fun h0 x H7 s7 => ?_⟩
            · refine ⟨_, rfl, rfl, _, rfl, ?_⟩
              rw [decide_eq_false (fun z => hne (by have := V.int.inj z; omega))]
              refine iteF ?_
              refine ⟨_, rfl, (by show 2 ≤ sizeLine; decide), fun p9 np9 => ?_⟩
              have s9 := same_upd (o := HO.tup [V.str "text", V.int ((Cl t .bg 0 : Nat) : Int)]) np9
              refine ⟨.tuple [.str "text", .int _], .tuple [.str "text", .int _], .tup (SqT.of (s9 _ _ e8)) (.cons (.str _) (.cons (.int _) .nil)), .tup (SqT.of upd_same) (.cons (.str _) (.cons (.int _) .nil)), pl_two _ _, pl_two _ _, dp_two _ _, ?_⟩
              rw [SeqAt.eqv_refl_plain _ (pl_two _ _)]
              refine ⟨_, rfl, ?_⟩
              refine iteF ?_
              have s69 := s7.trans (s8.trans s9)
              exact ⟨_, _, _, _, _, _, _, _, _, _, rfl, (hP6.same s69).more (by omega), T6.ext s69⟩
            · refine ⟨_, rfl, rfl, _, rfl, ?_⟩
              rw [h0, show decide (V.int ((0 : Nat) : Int) = V.int 0) = true from decide_eq_true rfl]
              refine iteT ?_
              refine ⟨.none, .none, .non, .non, rfl, rfl, (by simp [PyData.depth]), ?_⟩
              refine ⟨_, rfl, ?_⟩
              rw [show PyData.eqv .none .none = true from rfl]
              refine iteF ?_
              exact ⟨_, _, _, _, _, _, _, _, _, _, rfl, (hP6.same s7).more (by omega), T6.ext s7⟩
    · rintro σ H ⟨v3, v4, v5, v6, v7, v8, v9, v10, v11, v12, rfl, hP0, T0⟩
      refine ⟨_, rfl, (by show 1 ≤ sizeLine; decide), fun a1 n1 => ?_⟩
      have e1 : upd H a1 (HO.lst [V.str "x"]) a1 = some (HO.lst [V.str "x"]) := upd_same
      have t1 : Same H (upd H a1 (HO.lst [V.str "x"])) := same_upd n1
      have a1p := (hP0.ne_new n1).1
      generalize upd H a1 (HO.lst [V.str "x"]) = G1 at e1 t1 ⊢
      have P1 := hP0.same t1
      refine ⟨(by show 1 ≤ sizeLine; decide), fun a2 n2 => ?_⟩
      have e2 : upd G1 a2 (HO.tup [V.str "x"]) a2 = some (HO.tup [V.str "x"]) := upd_same
      have t2 : Same G1 (upd G1 a2 (HO.tup [V.str "x"])) := same_upd n2
      have a2p := (P1.ne_new n2).1
      generalize upd G1 a2 (HO.tup [V.str "x"]) = G2 at e2 t2 ⊢
      have P2 := P1.same t2
      refine fun a3 n3 => ⟨upd_same, [(.inr "x", .int 1)], rfl, (by show 1 ≤ 15; decide), ?_⟩
      rw [upd_upd, show mergeK [] [((.inr "x" : Key), V.int 1)] = [(.inr "x", .int 1)] from by kernel_rfl]
      have e3 : upd G2 a3 (HO.dK [(.inr "x", .int 1)]) a3 = some (HO.dK [(.inr "x", .int 1)]) := upd_same
      have t3 : Same G2 (upd G2 a3 (HO.dK [(.inr "x", .int 1)])) := same_upd n3
      have a3p := (P2.ne_new n3).1
      generalize upd G2 a3 (HO.dK [(.inr "x", .int 1)]) = G3 at e3 t3 ⊢
      have P3 := P2.same t3
      refine ⟨(by show 6 ≤ sizeLine; decide), fun l4 n4 => ?_⟩
      obtain ⟨xs, exs⟩ : ∃ xs, xs = [V.non, V.int 5, V.bl true, V.ref a1, V.ref a2, V.ref a3] := ⟨_, rfl⟩
      have lxs : xs.length = 6 := by rw [exs]; rfl
      rw [← exs]
      have e4 : upd G3 l4 (HO.lst xs) l4 = some (HO.lst xs) := upd_same
      have t4 : Same G3 (upd G3 l4 (HO.lst xs)) := same_upd n4
      have l4p := (P3.ne_new n4).1
      generalize upd G3 l4 (HO.lst xs) = G4 at e4 t4 ⊢
      have P4 := P3.same t4
      have T4 := T0.ext (t1.trans (t2.trans (t3.trans t4)))
      refine ⟨p, lc, l4, _, xs, rfl, P4, by omega, e4, l4p, by omega, by omega, fun x G5 hx P5 k5 => ?_⟩
      have T5 := tabs_kp P4 k5 T4
      obtain ⟨d, hd, odd⟩ : ∃ d, Dt K G5 x d ∧ ∀ t, x ≠ .str (Tx t) := by
        rw [exs] at hx
        simp only [List.mem_cons, List.not_mem_nil, or_false] at hx
        rcases hx with rfl | rfl | rfl | rfl | rfl | rfl
        · exact ⟨_, .non, fun t z => by cases z⟩
        · exact ⟨_, .int _, fun t z => by cases z⟩
        · exact ⟨_, .bl _, fun t z => by cases z⟩
        · exact ⟨.list [.str "x"], .lst (SqL.of (k5 _ _ a1p (t4 _ _ (t3 _ _ (t2 _ _ e1))))) (.cons (.str _) .nil), fun t z => by cases z⟩
        · exact ⟨.tuple [.str "x"], .tup (SqT.of (k5 _ _ a2p (t4 _ _ (t3 _ _ e2)))) (.cons (.str _) .nil), fun t z => by cases z⟩
        · exact ⟨.dict [(.str "x", .int 1)], .dct (ds := [.int 1]) (k5 _ _ a3p (t4 _ _ e3)) (.cons (.int _) .nil), fun t z => by cases z⟩
      clear hx exs e1 e2 e3 e4 k5
      refine ⟨T5, fun G6 f6 T6 => ?_⟩
      refine ⟨_, rfl, x, d, rfl, hd.n f6, fun t' e' => absurd e' (odd t'), fun _ dd H7 s7 n7 e7 => .inr (.inr ⟨rfl, dd, _, rfl, e7, fun tt H8 s8 e8 => ?_⟩)⟩
      refine ⟨(by show 2 ≤ sizeLine; decide), fun p9 np9 => ?_⟩
      have s9 := same_upd (o := HO.tup [V.str "text", V.int 0]) np9
      refine ⟨.tuple [.str "text", .int _], .tuple [.str "text", .int _], .tup (SqT.of (s9 _ _ e8)) (.cons (.str _) (.cons (.int _) .nil)), .tup (SqT.of upd_same) (.cons (.str _) (.cons (.int _) .nil)), pl_two _ _, pl_two _ _, dp_two _ _, ?_⟩
      rw [SeqAt.eqv_refl_plain _ (pl_two _ _)]
      refine ⟨_, rfl, ?_⟩
      refine iteF ?_
      have T9 := T6.ext (s7.trans (s8.trans s9))
      generalize upd H8 p9 (HO.tup [V.str "text", V.int 0]) = G9 at T9 ⊢
      refine ⟨T9, fun G10 f10 T10 => ?_⟩
      refine ⟨.str "", .str "", rfl, .str _, fun t' e' => ?_, fun z => absurd (congrArg V.str lit_empty) (z [])⟩
      rw [show (Str.ofString "" : Str) = Tx [] from lit_empty] at e'
      obtain rfl := tx_inj (V.str.inj e')
      have c1 : Cl [] .bg 0 = 1 := rfl
      refine ⟨by decide, fun hne dd H11 s11 n11 e11 => .inr (.inr ⟨rfl, dd, _, rfl, e11, fun tt H12 s12 e12 => ?_⟩), fun h0 => absurd (c1.symm.trans h0) (by decide)⟩
      refine ⟨(by show 2 ≤ sizeLine; decide), fun p13 np13 => ?_⟩
      have s13 := same_upd (o := HO.tup [V.str "text", V.int 1]) np13
      refine ⟨.tuple [.str "text", .int 1], .tuple [.str "text", .int 1], .tup (SqT.of (s13 _ _ e12)) (.cons (.str _) (.cons (.int _) .nil)), .tup (SqT.of upd_same) (.cons (.str _) (.cons (.int _) .nil)), pl_two _ _, pl_two _ _, dp_two _ _, ?_⟩
      rw [SeqAt.eqv_refl_plain _ (pl_two _ _)]
      exact k _
end

end Vf

set_option maxRecDepth 100000
set_option maxHeartbeats 8000000
namespace Vf
open PySem PySem.Spec PyProof.Rows L2
/-! ### what the top has written -/
def fieldsOf : List (Nat × Str) := [(0, "column"), (1, "what"), (1, "number"), (2, "row"), (3, "what"), (3, "limit"), (4, "what")]
def lookB (K : PySem.W.Frag) (cs : List Addr) : Bool :=
  (List.range 7).all (fun k => xfB K (cs.getD k 0)) && ((List.range 7).all (fun k => (List.range 7).all fun j => decide (PySem.W.exmOne K (.ref (cs.getD k 0)) (.ref (cs.getD j 0)) = some (decide (k = j)))) &&
  (fieldsOf.all (fun p => decide (PySem.W.findIn K (.ref (cs.getD p.1 0)) p.2 = some none)) && (oexB K (cs.getD 0 0) && oexB K (cs.getD 1 0) && oexB K (cs.getD 2 0))))
structure Looked (K : PySem.W.Frag) (cs : List Addr) : Prop where
  xf : ∀ k, k < 7 → XfC K (cs.getD k 0)
  ex : ∀ k j, k < 7 → j < 7 → PySem.W.exmOne K (.ref (cs.getD k 0)) (.ref (cs.getD j 0)) = some (decide (k = j))
  no : ∀ p ∈ fieldsOf, PySem.W.findIn K (.ref (cs.getD p.1 0)) p.2 = some none
  ox : (oexB K (cs.getD 0 0) && oexB K (cs.getD 1 0) && oexB K (cs.getD 2 0)) = true
theorem looked {K : PySem.W.Frag} {cs : List Addr} (h : lookB K cs = true) : Looked K cs := by
  obtain ⟨h1, h⟩ := Bool.and_eq_true_iff.mp h
  obtain ⟨h2, h⟩ := Bool.and_eq_true_iff.mp h
  obtain ⟨h3, h4⟩ := Bool.and_eq_true_iff.mp h
  have r : ∀ k, k < 7 → k ∈ List.range 7 := fun k hk => List.mem_range.mpr hk
  exact ⟨fun k hk => xfB_ok (List.all_eq_true.mp h1 k (r k hk)), fun k j hk hj => of_decide_eq_true (List.all_eq_true.mp (List.all_eq_true.mp h2 k (r k hk)) j (r j hj)), fun p hp => of_decide_eq_true (List.all_eq_true.mp h3 p hp), h4⟩
def tyNames : List String := ["NoneType", "bool", "int", "str", "list", "tuple", "dict"]
def polyB (K : PySem.W.Frag) (CP : Addr) : Bool :=
  PySem.W.plainGet K CP Str.empty && (PySem.W.hasDictIn K CP && (PySem.W.plainOver K CP && (decide (PySem.W.findIn K (.ref CP) "__setattr__" = some (some (.builtin "object.__setattr__"))) && (decide (PySem.W.findIn K (.ref CP) "numbers" = some none) &&
  (decide (PySem.W.findIn K (.ref CP) "__class__" = some (some (.builtin "object.__class__"))) && (decide (PySem.W.specialIn K (.builtin "object.__class__") "__get__" = some (some (.builtin "getset_descriptor.__get__"))) &&
  (decide (PySem.W.takesIn K (.builtin "object.__class__") = some true) && (decide (PySem.W.mroIn K CP (.type "object") = some true) && (tyNames.all (fun t => decide (PySem.W.kitOne K (.type t) (.ref CP) = some false) && PySem.W.notFirst K CP (.type t)) &&
  (PySem.W.notFirst K CP (.ref CP) && (PySem.W.makesIn K CP && PySem.W.keepIn K (.ref CP))))))))))))
theorem tyD_mem (d : PyData) : tyD d ∈ tyNames := by
  cases d <;> simp [tyD, tyNames]
theorem polyC {K : PySem.W.Frag} {mg : Str → Option Value} {CP : Addr} (m : mg "Poly" = some (.ref CP)) (h : polyB K CP = true) : PoC K mg CP ∧ PySem.W.makesIn K CP = true ∧ PySem.W.keepIn K (.ref CP) = true := by
  obtain ⟨h1, h⟩ := Bool.and_eq_true_iff.mp h
  obtain ⟨h2, h⟩ := Bool.and_eq_true_iff.mp h
  obtain ⟨h3, h⟩ := Bool.and_eq_true_iff.mp h
  obtain ⟨h4, h⟩ := Bool.and_eq_true_iff.mp h
  obtain ⟨h5, h⟩ := Bool.and_eq_true_iff.mp h
  obtain ⟨h6, h⟩ := Bool.and_eq_true_iff.mp h
  obtain ⟨h7, h⟩ := Bool.and_eq_true_iff.mp h
  obtain ⟨h8, h⟩ := Bool.and_eq_true_iff.mp h
  obtain ⟨h9, h⟩ := Bool.and_eq_true_iff.mp h
  obtain ⟨h10, h⟩ := Bool.and_eq_true_iff.mp h
  obtain ⟨h11, h⟩ := Bool.and_eq_true_iff.mp h
  obtain ⟨h12, h13⟩ := Bool.and_eq_true_iff.mp h
  have z := fun d : PyData => Bool.and_eq_true_iff.mp (List.all_eq_true.mp h10 (tyD d) (tyD_mem d))
  exact ⟨⟨m, ⟨h1, h2, h3, of_decide_eq_true h4⟩, (of_decide_eq_true h5 : PySem.W.findIn K (.ref CP) "numbers" = some none), of_decide_eq_true h6, of_decide_eq_true h7, of_decide_eq_true h8, of_decide_eq_true h9, fun d => of_decide_eq_true (z d).1, h11, fun d => (z d).2⟩, h12, h13⟩
theorem fn_of_ty {K : PySem.W.Frag} {f : Addr} (h : PySem.W.typeIn K (.ref f) = some (.type "function")) : PySem.W.isFn K (.ref f) = true := by
  unfold PySem.W.isFn
  rw [h]
  decide +kernel
theorem all_mk {l : PySem.W.OpenLaw} {w : World} {K : PySem.W.Frag} {h : Heap} {mg : Str → Option Value} {fa : Addr} {q : Program}
    {C0 C1 C2 C3 C4 C5 C6 i0 i1 i2 f0 f1 f2 f3 f4 f5 f6 f7 f8 f9 f10 f11 f12 f13 f14 f15 f16 f17 f18 f19 f20 f21 f22 f23 f24 cL Pt CP g0 g1 : Addr}
    {eL : Value} {dL : Option Addr} {vL : Array Value} {sL : Array (Option Value)}
    {ocf0 kVf0 dcf0 pmf0 cdf0 ctf0 : Value} {odf0 anf0 : Option Addr} {slf0 : Array (Option Value)}
    {ocf1 kVf1 dcf1 pmf1 cdf1 ctf1 : Value} {odf1 anf1 : Option Addr} {slf1 : Array (Option Value)}
    {ocf2 kVf2 dcf2 pmf2 cdf2 ctf2 : Value} {odf2 anf2 : Option Addr} {slf2 : Array (Option Value)}
    {ocf3 kVf3 dcf3 pmf3 cdf3 ctf3 : Value} {odf3 anf3 : Option Addr} {slf3 : Array (Option Value)}
    {ocf4 kVf4 dcf4 pmf4 cdf4 ctf4 : Value} {odf4 anf4 : Option Addr} {slf4 : Array (Option Value)}
    {ocf5 kVf5 dcf5 pmf5 cdf5 ctf5 : Value} {odf5 anf5 : Option Addr} {slf5 : Array (Option Value)}
    {ocf6 kVf6 dcf6 pmf6 cdf6 ctf6 : Value} {odf6 anf6 : Option Addr} {slf6 : Array (Option Value)}
    {ocf7 kVf7 dcf7 pmf7 cdf7 ctf7 : Value} {odf7 anf7 : Option Addr} {slf7 : Array (Option Value)}
    {ocf8 kVf8 dcf8 pmf8 cdf8 ctf8 : Value} {odf8 anf8 : Option Addr} {slf8 : Array (Option Value)}
    {ocf9 kVf9 dcf9 pmf9 cdf9 ctf9 : Value} {odf9 anf9 : Option Addr} {slf9 : Array (Option Value)}
    {ocf10 kVf10 dcf10 pmf10 cdf10 ctf10 : Value} {odf10 anf10 : Option Addr} {slf10 : Array (Option Value)}
    {ocf11 kVf11 dcf11 pmf11 cdf11 ctf11 : Value} {odf11 anf11 : Option Addr} {slf11 : Array (Option Value)}
    {ocf12 kVf12 dcf12 pmf12 cdf12 ctf12 : Value} {odf12 anf12 : Option Addr} {slf12 : Array (Option Value)}
    {ocf13 kVf13 dcf13 pmf13 cdf13 ctf13 : Value} {odf13 anf13 : Option Addr} {slf13 : Array (Option Value)}
    {ocf14 kVf14 dcf14 pmf14 cdf14 ctf14 : Value} {odf14 anf14 : Option Addr} {slf14 : Array (Option Value)}
    {ocf15 kVf15 dcf15 pmf15 cdf15 ctf15 : Value} {odf15 anf15 : Option Addr} {slf15 : Array (Option Value)}
    {ocf16 kVf16 dcf16 pmf16 cdf16 ctf16 : Value} {odf16 anf16 : Option Addr} {slf16 : Array (Option Value)}
    {ocf17 kVf17 dcf17 pmf17 cdf17 ctf17 : Value} {odf17 anf17 : Option Addr} {slf17 : Array (Option Value)}
    {ocf18 kVf18 dcf18 pmf18 cdf18 ctf18 : Value} {odf18 anf18 : Option Addr} {slf18 : Array (Option Value)}
    {ocf19 kVf19 dcf19 pmf19 cdf19 ctf19 : Value} {odf19 anf19 : Option Addr} {slf19 : Array (Option Value)}
    {ocf20 kVf20 dcf20 pmf20 cdf20 ctf20 : Value} {odf20 anf20 : Option Addr} {slf20 : Array (Option Value)}
    {ocf21 kVf21 dcf21 pmf21 cdf21 ctf21 : Value} {odf21 anf21 : Option Addr} {slf21 : Array (Option Value)}
    {ocf22 kVf22 dcf22 pmf22 cdf22 ctf22 : Value} {odf22 anf22 : Option Addr} {slf22 : Array (Option Value)}
    {ocf23 kVf23 dcf23 pmf23 cdf23 ctf23 : Value} {odf23 anf23 : Option Addr} {slf23 : Array (Option Value)}
    {ocf24 kVf24 dcf24 pmf24 ctf24 : Value} {odf24 anf24 : Option Addr} {slf24 : Array (Option Value)}
    {tkDIGITS : Tok}
    {tkMOST_DIGITS : Tok}
    {oci0 kVi0 dci0 pmi0 cdi0 cti0 : Value} {odi0 ani0 : Option Addr} {sli0 : Array (Option Value)}
    {nm0 qn0 : Str} {N0 : Addr} {bs0 bm0 sub0 : List Value} {sn0 : List Str} {ab0 : Bool} {col0 : Option Bool} {dd0 : Option Addr} {ka0 kb0 kc0 kd0 ke0 : Option Value}
    {oci1 kVi1 dci1 pmi1 cdi1 cti1 : Value} {odi1 ani1 : Option Addr} {sli1 : Array (Option Value)}
    {nm1 qn1 : Str} {N1 : Addr} {bs1 bm1 sub1 : List Value} {sn1 : List Str} {ab1 : Bool} {col1 : Option Bool} {dd1 : Option Addr} {ka1 kb1 kc1 kd1 ke1 : Option Value}
    {oci2 kVi2 dci2 pmi2 cdi2 cti2 : Value} {odi2 ani2 : Option Addr} {sli2 : Array (Option Value)}
    {nm2 qn2 : Str} {N2 : Addr} {bs2 bm2 sub2 : List Value} {sn2 : List Str} {ab2 : Bool} {col2 : Option Bool} {dd2 : Option Addr} {ka2 kb2 kc2 kd2 ke2 : Option Value}
    {ocg0 kVg0 dcg0 pmg0 cdg0 ctg0 : Value} {odg0 ang0 : Option Addr} {slg0 : Array (Option Value)}
    {ocg1 kVg1 dcg1 pmg1 cdg1 ctg1 : Value} {odg1 ang1 : Option Addr} {slg1 : Array (Option Value)}
    (X : K.In h) (G : h.Ns mainGlobals mg) (hfa : mg "law" = some (.ref fa)) (TB : TabsG q K mg h)
    (a0 : PySem.W.nsIn K mainGlobals "_law_pen" = some (some (.ref f0)))
    (l0 : K.lookup f0 = some ⟨ocf0, odf0, .func (PySem.W.fnOf "_law_pen" "_law_pen" (defArgs sPen) (defBody sPen) (defScope sPen) .none kVf0 dcf0 pmf0 anf0 cdf0 ctf0), slf0⟩)
    (c0 : PySem.W.codeIn K cdf0 "_law_pen" = true)
    (k0 : PySem.W.keepIn K (.ref f0) = true)
    (a1 : PySem.W.nsIn K mainGlobals "_law_draw" = some (some (.ref f1)))
    (l1 : K.lookup f1 = some ⟨ocf1, odf1, .func (PySem.W.fnOf "_law_draw" "_law_draw" (defArgs sDraw) (defBody sDraw) (defScope sDraw) .none kVf1 dcf1 pmf1 anf1 cdf1 ctf1), slf1⟩)
    (c1 : PySem.W.codeIn K cdf1 "_law_draw" = true)
    (k1 : PySem.W.keepIn K (.ref f1) = true)
    (a2 : PySem.W.nsIn K mainGlobals "_law_pick" = some (some (.ref f2)))
    (l2 : K.lookup f2 = some ⟨ocf2, odf2, .func (PySem.W.fnOf "_law_pick" "_law_pick" (defArgs sPick) (defBody sPick) (defScope sPick) .none kVf2 dcf2 pmf2 anf2 cdf2 ctf2), slf2⟩)
    (c2 : PySem.W.codeIn K cdf2 "_law_pick" = true)
    (k2 : PySem.W.keepIn K (.ref f2) = true)
    (a3 : PySem.W.nsIn K mainGlobals "is_whole" = some (some (.ref f3)))
    (l3 : K.lookup f3 = some ⟨ocf3, odf3, .func (PySem.W.fnOf "is_whole" "is_whole" (defArgs sIsWhole) (defBody sIsWhole) (defScope sIsWhole) .none kVf3 dcf3 pmf3 anf3 cdf3 ctf3), slf3⟩)
    (c3 : PySem.W.codeIn K cdf3 "is_whole" = true)
    (k3 : PySem.W.keepIn K (.ref f3) = true)
    (a4 : PySem.W.nsIn K mainGlobals "is_ratio" = some (some (.ref f4)))
    (l4 : K.lookup f4 = some ⟨ocf4, odf4, .func (PySem.W.fnOf "is_ratio" "is_ratio" (defArgs sIsRatio) (defBody sIsRatio) (defScope sIsRatio) .none kVf4 dcf4 pmf4 anf4 cdf4 ctf4), slf4⟩)
    (c4 : PySem.W.codeIn K cdf4 "is_ratio" = true)
    (k4 : PySem.W.keepIn K (.ref f4) = true)
    (a5 : PySem.W.nsIn K mainGlobals "is_ratio_row" = some (some (.ref f5)))
    (l5 : K.lookup f5 = some ⟨ocf5, odf5, .func (PySem.W.fnOf "is_ratio_row" "is_ratio_row" (defArgs sIsRow) (defBody sIsRow) (defScope sIsRow) .none kVf5 dcf5 pmf5 anf5 cdf5 ctf5), slf5⟩)
    (c5 : PySem.W.codeIn K cdf5 "is_ratio_row" = true)
    (k5 : PySem.W.keepIn K (.ref f5) = true)
    (a6 : PySem.W.nsIn K mainGlobals "lowest" = some (some (.ref f6)))
    (l6 : K.lookup f6 = some ⟨ocf6, odf6, .func (PySem.W.fnOf "lowest" "lowest" (defArgs sLowest) (defBody sLowest) (defScope sLowest) .none kVf6 dcf6 pmf6 anf6 cdf6 ctf6), slf6⟩)
    (c6 : PySem.W.codeIn K cdf6 "lowest" = true)
    (k6 : PySem.W.keepIn K (.ref f6) = true)
    (a7 : PySem.W.nsIn K mainGlobals "parts_of" = some (some (.ref f7)))
    (l7 : K.lookup f7 = some ⟨ocf7, odf7, .func (PySem.W.fnOf "parts_of" "parts_of" (defArgs sParts) (defBody sParts) (defScope sParts) .none kVf7 dcf7 pmf7 anf7 cdf7 ctf7), slf7⟩)
    (c7 : PySem.W.codeIn K cdf7 "parts_of" = true)
    (k7 : PySem.W.keepIn K (.ref f7) = true)
    (a8 : PySem.W.nsIn K mainGlobals "told" = some (some (.ref f8)))
    (l8 : K.lookup f8 = some ⟨ocf8, odf8, .func (PySem.W.fnOf "told" "told" (defArgs sTold) (defBody sTold) (defScope sTold) .none kVf8 dcf8 pmf8 anf8 cdf8 ctf8), slf8⟩)
    (c8 : PySem.W.codeIn K cdf8 "told" = true)
    (k8 : PySem.W.keepIn K (.ref f8) = true)
    (a9 : PySem.W.nsIn K mainGlobals "plus" = some (some (.ref f9)))
    (l9 : K.lookup f9 = some ⟨ocf9, odf9, .func (PySem.W.fnOf "plus" "plus" (defArgs sPlus) (defBody sPlus) (defScope sPlus) .none kVf9 dcf9 pmf9 anf9 cdf9 ctf9), slf9⟩)
    (c9 : PySem.W.codeIn K cdf9 "plus" = true)
    (k9 : PySem.W.keepIn K (.ref f9) = true)
    (a10 : PySem.W.nsIn K mainGlobals "times" = some (some (.ref f10)))
    (l10 : K.lookup f10 = some ⟨ocf10, odf10, .func (PySem.W.fnOf "times" "times" (defArgs sTimes) (defBody sTimes) (defScope sTimes) .none kVf10 dcf10 pmf10 anf10 cdf10 ctf10), slf10⟩)
    (c10 : PySem.W.codeIn K cdf10 "times" = true)
    (k10 : PySem.W.keepIn K (.ref f10) = true)
    (a11 : PySem.W.nsIn K mainGlobals "behind_spaces" = some (some (.ref f11)))
    (l11 : K.lookup f11 = some ⟨ocf11, odf11, .func (PySem.W.fnOf "behind_spaces" "behind_spaces" (defArgs sBeh) (defBody sBeh) (defScope sBeh) .none kVf11 dcf11 pmf11 anf11 cdf11 ctf11), slf11⟩)
    (c11 : PySem.W.codeIn K cdf11 "behind_spaces" = true)
    (k11 : PySem.W.keepIn K (.ref f11) = true)
    (a12 : PySem.W.nsIn K mainGlobals "is_digit" = some (some (.ref f12)))
    (l12 : K.lookup f12 = some ⟨ocf12, odf12, .func (PySem.W.fnOf "is_digit" "is_digit" (defArgs sIsD) (defBody sIsD) (defScope sIsD) .none kVf12 dcf12 pmf12 anf12 cdf12 ctf12), slf12⟩)
    (c12 : PySem.W.codeIn K cdf12 "is_digit" = true)
    (k12 : PySem.W.keepIn K (.ref f12) = true)
    (a13 : PySem.W.nsIn K mainGlobals "read_whole" = some (some (.ref f13)))
    (l13 : K.lookup f13 = some ⟨ocf13, odf13, .func (PySem.W.fnOf "read_whole" "read_whole" (defArgs sRW) (defBody sRW) (defScope sRW) .none kVf13 dcf13 pmf13 anf13 cdf13 ctf13), slf13⟩)
    (c13 : PySem.W.codeIn K cdf13 "read_whole" = true)
    (k13 : PySem.W.keepIn K (.ref f13) = true)
    (a14 : PySem.W.nsIn K mainGlobals "read_number" = some (some (.ref f14)))
    (l14 : K.lookup f14 = some ⟨ocf14, odf14, .func (PySem.W.fnOf "read_number" "read_number" (defArgs sRN) (defBody sRN) (defScope sRN) .none kVf14 dcf14 pmf14 anf14 cdf14 ctf14), slf14⟩)
    (c14 : PySem.W.codeIn K cdf14 "read_number" = true)
    (k14 : PySem.W.keepIn K (.ref f14) = true)
    (a15 : PySem.W.nsIn K mainGlobals "read_power" = some (some (.ref f15)))
    (l15 : K.lookup f15 = some ⟨ocf15, odf15, .func (PySem.W.fnOf "read_power" "read_power" (defArgs sRP) (defBody sRP) (defScope sRP) .none kVf15 dcf15 pmf15 anf15 cdf15 ctf15), slf15⟩)
    (c15 : PySem.W.codeIn K cdf15 "read_power" = true)
    (k15 : PySem.W.keepIn K (.ref f15) = true)
    (a16 : PySem.W.nsIn K mainGlobals "read_term" = some (some (.ref f16)))
    (l16 : K.lookup f16 = some ⟨ocf16, odf16, .func (PySem.W.fnOf "read_term" "read_term" (defArgs sRT) (defBody sRT) (defScope sRT) .none kVf16 dcf16 pmf16 anf16 cdf16 ctf16), slf16⟩)
    (c16 : PySem.W.codeIn K cdf16 "read_term" = true)
    (k16 : PySem.W.keepIn K (.ref f16) = true)
    (a17 : PySem.W.nsIn K mainGlobals "sign_at" = some (some (.ref f17)))
    (l17 : K.lookup f17 = some ⟨ocf17, odf17, .func (PySem.W.fnOf "sign_at" "sign_at" (defArgs sSg) (defBody sSg) (defScope sSg) .none kVf17 dcf17 pmf17 anf17 cdf17 ctf17), slf17⟩)
    (c17 : PySem.W.codeIn K cdf17 "sign_at" = true)
    (k17 : PySem.W.keepIn K (.ref f17) = true)
    (a18 : PySem.W.nsIn K mainGlobals "read_terms" = some (some (.ref f18)))
    (l18 : K.lookup f18 = some ⟨ocf18, odf18, .func (PySem.W.fnOf "read_terms" "read_terms" (defArgs sRTs) (defBody sRTs) (defScope sRTs) .none kVf18 dcf18 pmf18 anf18 cdf18 ctf18), slf18⟩)
    (c18 : PySem.W.codeIn K cdf18 "read_terms" = true)
    (k18 : PySem.W.keepIn K (.ref f18) = true)
    (a19 : PySem.W.nsIn K mainGlobals "read_poly" = some (some (.ref f19)))
    (l19 : K.lookup f19 = some ⟨ocf19, odf19, .func (PySem.W.fnOf "read_poly" "read_poly" (defArgs sRPl) (defBody sRPl) (defScope sRPl) .none kVf19 dcf19 pmf19 anf19 cdf19 ctf19), slf19⟩)
    (c19 : PySem.W.codeIn K cdf19 "read_poly" = true)
    (k19 : PySem.W.keepIn K (.ref f19) = true)
    (a20 : PySem.W.nsIn K mainGlobals "poly_of" = some (some (.ref f20)))
    (l20 : K.lookup f20 = some ⟨ocf20, odf20, .func (PySem.W.fnOf "poly_of" "poly_of" (defArgs sPolyOf) (defBody sPolyOf) (defScope sPolyOf) .none kVf20 dcf20 pmf20 anf20 cdf20 ctf20), slf20⟩)
    (c20 : PySem.W.codeIn K cdf20 "poly_of" = true)
    (k20 : PySem.W.keepIn K (.ref f20) = true)
    (a21 : PySem.W.nsIn K mainGlobals "_law_next" = some (some (.ref f21)))
    (l21 : K.lookup f21 = some ⟨ocf21, odf21, .func (PySem.W.fnOf "_law_next" "_law_next" (defArgs sNext) (defBody sNext) (defScope sNext) .none kVf21 dcf21 pmf21 anf21 cdf21 ctf21), slf21⟩)
    (c21 : PySem.W.codeIn K cdf21 "_law_next" = true)
    (k21 : PySem.W.keepIn K (.ref f21) = true)
    (a22 : PySem.W.nsIn K mainGlobals "_law_column" = some (some (.ref f22)))
    (l22 : K.lookup f22 = some ⟨ocf22, odf22, .func (PySem.W.fnOf "_law_column" "_law_column" (defArgs sCol) (defBody sCol) (defScope sCol) .none kVf22 dcf22 pmf22 anf22 cdf22 ctf22), slf22⟩)
    (c22 : PySem.W.codeIn K cdf22 "_law_column" = true)
    (k22 : PySem.W.keepIn K (.ref f22) = true)
    (a23 : PySem.W.nsIn K mainGlobals "_law_why" = some (some (.ref f23)))
    (l23 : K.lookup f23 = some ⟨ocf23, odf23, .func (PySem.W.fnOf "_law_why" "_law_why" (defArgs sWhy) (defBody sWhy) (defScope sWhy) .none kVf23 dcf23 pmf23 anf23 cdf23 ctf23), slf23⟩)
    (c23 : PySem.W.codeIn K cdf23 "_law_why" = true)
    (k23 : PySem.W.keepIn K (.ref f23) = true)
    (a24 : PySem.W.nsIn K mainGlobals "law" = some (some (.ref f24)))
    (l24 : K.lookup f24 = some ⟨ocf24, odf24, .func (PySem.W.fnOf "law" "law" (defArgs sLaw) (defBody sLaw) (defScope sLaw) .none kVf24 dcf24 pmf24 anf24 (.ref cL) ctf24), slf24⟩)
    (c24 : PySem.W.codeIn K (.ref cL) "law" = true)
    (k24 : PySem.W.keepIn K (.ref f24) = true)
    (tl : K.lookup cL = some ⟨eL, dL, .fields vL, sL⟩)
    (tv : vL[11]? = some (.ref Pt))
    (tn : K.lookup Pt = none)
    (tr : ((recsOf q).any fun e => e.name == Str.ofString "law") = true)
    (aggcd : PySem.W.nsIn K mainGlobals "gcd" = some (some (.builtin "math.gcd")))
    (acDIGITS : PySem.W.nsIn K mainGlobals "DIGITS" = some (some (.str "0123456789" tkDIGITS)))
    (acMOST_DIGITS : PySem.W.nsIn K mainGlobals "MOST_DIGITS" = some (some (.int 40 tkMOST_DIGITS)))
    (m0 : PySem.W.nsIn K mainGlobals "BadText" = some (some (.ref C0)))
    (m1 : PySem.W.nsIn K mainGlobals "BadNumber" = some (some (.ref C1)))
    (m2 : PySem.W.nsIn K mainGlobals "BadRow" = some (some (.ref C2)))
    (m3 : PySem.W.nsIn K mainGlobals "TooMany" = some (some (.ref C3)))
    (m4 : PySem.W.nsIn K mainGlobals "Unlike" = some (some (.ref C4)))
    (m5 : PySem.W.nsIn K mainGlobals "TooWide" = some (some (.ref C5)))
    (m6 : PySem.W.nsIn K mainGlobals "Pole" = some (some (.ref C6)))
    (ei0 : PySem.W.findIn K (.ref C0) "__init__" = some (some (.ref i0)))
    (ti0 : PySem.W.typeIn K (.ref i0) = some (.type "function"))
    (li0 : K.lookup i0 = some ⟨oci0, odi0, .func (PySem.W.fnOf "__init__" "BadText.__init__" (defArgs (inClass (topS 7) 0)) (defBody (inClass (topS 7) 0)) (defScope (inClass (topS 7) 0)) .none kVi0 dci0 pmi0 ani0 cdi0 cti0), sli0⟩)
    (ci0 : PySem.W.codeIn K cdi0 "BadText.__init__" = true)
    (ki0 : PySem.W.keepIn K (.ref i0) = true)
    (lc0 : K.lookup C0 = some (excClassObj nm0 qn0 C0 N0 bs0 bm0 true sn0 sub0 ab0 col0 dd0 ka0 kb0 kc0 kd0 ke0 "ValueError.__new__"))
    (lb0 : PySem.HandSPX.refsVE bm0 = true)
    (ei1 : PySem.W.findIn K (.ref C1) "__init__" = some (some (.ref i1)))
    (ti1 : PySem.W.typeIn K (.ref i1) = some (.type "function"))
    (li1 : K.lookup i1 = some ⟨oci1, odi1, .func (PySem.W.fnOf "__init__" "BadNumber.__init__" (defArgs (inClass (topS 8) 0)) (defBody (inClass (topS 8) 0)) (defScope (inClass (topS 8) 0)) .none kVi1 dci1 pmi1 ani1 cdi1 cti1), sli1⟩)
    (ci1 : PySem.W.codeIn K cdi1 "BadNumber.__init__" = true)
    (ki1 : PySem.W.keepIn K (.ref i1) = true)
    (lc1 : K.lookup C1 = some (excClassObj nm1 qn1 C1 N1 bs1 bm1 true sn1 sub1 ab1 col1 dd1 ka1 kb1 kc1 kd1 ke1 "ValueError.__new__"))
    (lb1 : PySem.HandSPX.refsVE bm1 = true)
    (ei2 : PySem.W.findIn K (.ref C2) "__init__" = some (some (.ref i2)))
    (ti2 : PySem.W.typeIn K (.ref i2) = some (.type "function"))
    (li2 : K.lookup i2 = some ⟨oci2, odi2, .func (PySem.W.fnOf "__init__" "BadRow.__init__" (defArgs (inClass (topS 9) 0)) (defBody (inClass (topS 9) 0)) (defScope (inClass (topS 9) 0)) .none kVi2 dci2 pmi2 ani2 cdi2 cti2), sli2⟩)
    (ci2 : PySem.W.codeIn K cdi2 "BadRow.__init__" = true)
    (ki2 : PySem.W.keepIn K (.ref i2) = true)
    (lc2 : K.lookup C2 = some (excClassObj nm2 qn2 C2 N2 bs2 bm2 true sn2 sub2 ab2 col2 dd2 ka2 kb2 kc2 kd2 ke2 "ValueError.__new__"))
    (lb2 : PySem.HandSPX.refsVE bm2 = true)
    (mP : PySem.W.nsIn K mainGlobals "Poly" = some (some (.ref CP)))
    (eg0 : PySem.W.findIn K (.ref CP) "__init__" = some (some (.ref g0)))
    (tg0 : PySem.W.typeIn K (.ref g0) = some (.type "function"))
    (lg0 : K.lookup g0 = some ⟨ocg0, odg0, .func (PySem.W.fnOf "__init__" "Poly.__init__" (defArgs (inClass (topS 35) 0)) (defBody (inClass (topS 35) 0)) (defScope (inClass (topS 35) 0)) .none kVg0 dcg0 pmg0 ang0 cdg0 ctg0), slg0⟩)
    (cg0 : PySem.W.codeIn K cdg0 "Poly.__init__" = true)
    (kg0 : PySem.W.keepIn K (.ref g0) = true)
    (eg1 : PySem.W.findIn K (.ref CP) "__eq__" = some (some (.ref g1)))
    (tg1 : PySem.W.typeIn K (.ref g1) = some (.type "function"))
    (lg1 : K.lookup g1 = some ⟨ocg1, odg1, .func (PySem.W.fnOf "__eq__" "Poly.__eq__" (defArgs (inClass (topS 35) 1)) (defBody (inClass (topS 35) 1)) (defScope (inClass (topS 35) 1)) .none kVg1 dcg1 pmg1 ang1 cdg1 ctg1), slg1⟩)
    (cg1 : PySem.W.codeIn K cdg1 "Poly.__eq__" = true)
    (kg1 : PySem.W.keepIn K (.ref g1) = true)
    (zint : PySem.W.nsIn K mainGlobals "int" = some none)
    (zlist : PySem.W.nsIn K mainGlobals "list" = some none)
    (zlen : PySem.W.nsIn K mainGlobals "len" = some none)
    (zrange : PySem.W.nsIn K mainGlobals "range" = some none)
    (zstr : PySem.W.nsIn K mainGlobals "str" = some none)
    (zrepr : PySem.W.nsIn K mainGlobals "repr" = some none)
    (zisinstance : PySem.W.nsIn K mainGlobals "isinstance" = some none)
    (zbool : PySem.W.nsIn K mainGlobals "bool" = some none)
    (ztuple : PySem.W.nsIn K mainGlobals "tuple" = some none)
    (zabs : PySem.W.nsIn K mainGlobals "abs" = some none)
    (zall : PySem.W.nsIn K mainGlobals "all" = some none)
    (zenumerate : PySem.W.nsIn K mainGlobals "enumerate" = some none)
    (big : lookB K [C0, C1, C2, C3, C4, C5, C6] = true)
    (bigP : polyB K CP = true) :
    LawG l w K CX0 12 63 "_law_script" mg fa h := by
  have e := hfa.symm.trans (PySem.W.mg_of X G a24)
  cases e
  have Lk := looked (cs := [C0, C1, C2, C3, C4, C5, C6]) big
  have mgo : ∀ {x : Str} {a : Value}, PySem.W.nsIn K mainGlobals x = some (some a) → mg x = some a := fun z => PySem.W.mg_of X G z
  have mgn : ∀ {x : Str}, PySem.W.nsIn K mainGlobals x = some none → mg x = none := fun z => PySem.W.mg_none_of X G z
  have tb := TB "law" _ cL Pt _ _ _ _ _ _ tr hfa l24 rfl rfl tl tv
  have F0 := fun_mk (st := sPen) l0 c0 k0
  have F1 := fun_mk (st := sDraw) l1 c1 k1
  have F2 := fun_mk (st := sPick) l2 c2 k2
  have F3 := fun_mk (st := sIsWhole) l3 c3 k3
  have F4 := fun_mk (st := sIsRatio) l4 c4 k4
  have F5 := fun_mk (st := sIsRow) l5 c5 k5
  have F6 := fun_mk (st := sLowest) l6 c6 k6
  have F7 := fun_mk (st := sParts) l7 c7 k7
  have F8 := fun_mk (st := sTold) l8 c8 k8
  have F9 := fun_mk (st := sPlus) l9 c9 k9
  have F10 := fun_mk (st := sTimes) l10 c10 k10
  have F11 := fun_mk (st := sBeh) l11 c11 k11
  have F12 := fun_mk (st := sIsD) l12 c12 k12
  have F13 := fun_mk (st := sRW) l13 c13 k13
  have F14 := fun_mk (st := sRN) l14 c14 k14
  have F15 := fun_mk (st := sRP) l15 c15 k15
  have F16 := fun_mk (st := sRT) l16 c16 k16
  have F17 := fun_mk (st := sSg) l17 c17 k17
  have F18 := fun_mk (st := sRTs) l18 c18 k18
  have F19 := fun_mk (st := sRPl) l19 c19 k19
  have F20 := fun_mk (st := sPolyOf) l20 c20 k20
  have F21 := fun_mk (st := sNext) l21 c21 k21
  have F22 := fun_mk (st := sCol) l22 c22 k22
  have F23 := fun_mk (st := sWhy) l23 c23 k23
  have F24 := fun_mk (st := sLaw) l24 c24 k24
  have b0 := F0.binds (ps := ["_law_script"]) fun _ _ _ _ _ _ us hl => match us, hl with | [_], _ => rfl
  have b1 := F1.binds (ps := ["_law_pen_here", "_law_many"]) fun _ _ _ _ _ _ us hl => match us, hl with | [_, _], _ => rfl
  have b2 := F2.binds (ps := ["_law_pen_here", "_law_some"]) fun _ _ _ _ _ _ us hl => match us, hl with | [_, _], _ => rfl
  have b3 := F3.binds (ps := ["value"]) fun _ _ _ _ _ _ us hl => match us, hl with | [_], _ => rfl
  have b4 := F4.binds (ps := ["value"]) fun _ _ _ _ _ _ us hl => match us, hl with | [_], _ => rfl
  have b5 := F5.binds (ps := ["value"]) fun _ _ _ _ _ _ us hl => match us, hl with | [_], _ => rfl
  have b6 := F6.binds (ps := ["top", "bottom"]) fun _ _ _ _ _ _ us hl => match us, hl with | [_, _], _ => rfl
  have b7 := F7.binds (ps := ["value", "what"]) fun _ _ _ _ _ _ us hl => match us, hl with | [_, _], _ => rfl
  have b8 := F8.binds (ps := ["value", "what"]) fun _ _ _ _ _ _ us hl => match us, hl with | [_, _], _ => rfl
  have b9 := F9.binds (ps := ["one", "other"]) fun _ _ _ _ _ _ us hl => match us, hl with | [_, _], _ => rfl
  have b10 := F10.binds (ps := ["one", "other"]) fun _ _ _ _ _ _ us hl => match us, hl with | [_, _], _ => rfl
  have b11 := F11.binds (ps := ["text", "at"]) fun _ _ _ _ _ _ us hl => match us, hl with | [_, _], _ => rfl
  have b12 := F12.binds (ps := ["text", "at"]) fun _ _ _ _ _ _ us hl => match us, hl with | [_, _], _ => rfl
  have b13 := F13.binds (ps := ["text", "at"]) fun _ _ _ _ _ _ us hl => match us, hl with | [_, _], _ => rfl
  have b14 := F14.binds (ps := ["text", "at"]) fun _ _ _ _ _ _ us hl => match us, hl with | [_, _], _ => rfl
  have b15 := F15.binds (ps := ["text", "at"]) fun _ _ _ _ _ _ us hl => match us, hl with | [_, _], _ => rfl
  have b16 := F16.binds (ps := ["text", "at"]) fun _ _ _ _ _ _ us hl => match us, hl with | [_, _], _ => rfl
  have b17 := F17.binds (ps := ["text", "at"]) fun _ _ _ _ _ _ us hl => match us, hl with | [_, _], _ => rfl
  have b18 := F18.binds (ps := ["text", "at"]) fun _ _ _ _ _ _ us hl => match us, hl with | [_, _], _ => rfl
  have b19 := F19.binds (ps := ["text", "at"]) fun _ _ _ _ _ _ us hl => match us, hl with | [_, _], _ => rfl
  have b20 := F20.binds (ps := ["text"]) fun _ _ _ _ _ _ us hl => match us, hl with | [_], _ => rfl
  have b21 := F21.binds (ps := ["_law_state", "_law_sign"]) fun _ _ _ _ _ _ us hl => match us, hl with | [_, _], _ => rfl
  have b22 := F22.binds (ps := ["_law_text"]) fun _ _ _ _ _ _ us hl => match us, hl with | [_], _ => rfl
  have b23 := F23.binds (ps := ["_law_call"]) fun _ _ _ _ _ _ us hl => match us, hl with | [_], _ => rfl
  have FI0 := fun_mk (st := inClass (topS 7) 0) li0 ci0 ki0
  have bI0 := FI0.binds (ps := ["self", "column"]) fun _ _ _ _ _ _ us hl => match us, hl with | [_, _], _ => rfl
  have oo0 : OexC K C0 := oexB_ok (Bool.and_eq_true_iff.mp (Bool.and_eq_true_iff.mp Lk.ox).1).1 ⟨nm0, qn0, N0, bs0, bm0, sn0, sub0, ab0, col0, dd0, ka0, kb0, kc0, kd0, ke0, lc0, lb0⟩
  have FI1 := fun_mk (st := inClass (topS 8) 0) li1 ci1 ki1
  have bI1 := FI1.binds (ps := ["self", "what", "number"]) fun _ _ _ _ _ _ us hl => match us, hl with | [_, _, _], _ => rfl
  have oo1 : OexC K C1 := oexB_ok (Bool.and_eq_true_iff.mp (Bool.and_eq_true_iff.mp Lk.ox).1).2 ⟨nm1, qn1, N1, bs1, bm1, sn1, sub1, ab1, col1, dd1, ka1, kb1, kc1, kd1, ke1, lc1, lb1⟩
  have FI2 := fun_mk (st := inClass (topS 9) 0) li2 ci2 ki2
  have bI2 := FI2.binds (ps := ["self", "row"]) fun _ _ _ _ _ _ us hl => match us, hl with | [_, _], _ => rfl
  have oo2 : OexC K C2 := oexB_ok (Bool.and_eq_true_iff.mp Lk.ox).2 ⟨nm2, qn2, N2, bs2, bm2, sn2, sub2, ab2, col2, dd2, ka2, kb2, kc2, kd2, ke2, lc2, lb2⟩
  obtain ⟨PC, PMk, PKp⟩ := polyC (mg := mg) (mgo mP) bigP
  have FG0 := fun_mk (st := inClass (topS 35) 0) lg0 cg0 kg0
  have bg0 := FG0.binds (ps := ["self", "numbers"]) fun _ _ _ _ _ _ us hl => match us, hl with | [_, _], _ => rfl
  have FG1 := fun_mk (st := inClass (topS 35) 1) lg1 cg1 kg1
  have bg1 := FG1.binds (ps := ["self", "other"]) fun _ _ _ _ _ _ us hl => match us, hl with | [_, _], _ => rfl
  have B : Bi mg := { int := mgn zint, list := mgn zlist, len := mgn zlen, range := mgn zrange }
  have T : Bk mg := { toBi := B, isinstance := mgn zisinstance, bool := mgn zbool, tuple := mgn ztuple, abs := mgn zabs, str := mgn zstr, gcd := mgo aggcd }
  have W : Wc K mg ([C0, C1, C2, C3, C4, C5, C6].getD · 0) := { m0 := mgo m0, m1 := mgo m1, m2 := mgo m2, m3 := mgo m3, m4 := mgo m4, m5 := mgo m5, m6 := mgo m6, xf := Lk.xf, ex := Lk.ex, n0 := Lk.no (0, "column") (by simp [fieldsOf]), n1 := Lk.no (1, "what") (by simp [fieldsOf]), n1b := Lk.no (1, "number") (by simp [fieldsOf]), n2 := Lk.no (2, "row") (by simp [fieldsOf]), n3 := Lk.no (3, "what") (by simp [fieldsOf]), n3b := Lk.no (3, "limit") (by simp [fieldsOf]), n4 := Lk.no (4, "what") (by simp [fieldsOf]), repr := mgn zrepr }
  let Y : Yy K mg := ⟨f23, kVf23, dcf23, pmf23, anf23, cdf23, ctf23, ocf23, odf23, slf23, mgo a23, k23, l23, c23, b23⟩
  have bl : ∀ (s : Shared) (u : Value), BindsTo s (PySem.W.fnOf "law" "law" (defArgs sLaw) (defBody sLaw) (defScope sLaw) .none kVf24 dcf24 pmf24 anf24 (.ref cL) ctf24) ⟨[u], []⟩ [("_law_script", u)] := fun s u => .of_eq rfl
  refine ⟨_, [(cL, Pt)], spLaw K Pt, (fun p hp => by rw [List.mem_singleton.mp hp]; exact tb.2), (fun p hp => by rw [List.mem_singleton.mp hp]; exact tn), (fun p hp => by rw [List.mem_singleton.mp hp]; exact tb.1), (fun s u => bl s u), (fun H a ns hl _ hT hS => ⟨a, ns, rfl, hS, hl, hT _ (List.mem_singleton.mpr rfl), fun _ => rfl⟩), fun b _ _ mm1 hTB => ?_⟩
  have hTb : LamX.TabB b mg cL Pt := hTB _ (List.mem_singleton.mpr rfl)
  let NBadText : Ex l.prog w K mg b "BadText" C0 ["column"] := ⟨oo0, i0, _, mgo m0, ei0, ti0, bI0, iniBadText FI0 oo0 W.n0⟩
  let NBadNumber : Ex l.prog w K mg b "BadNumber" C1 ["what", "number"] := ⟨oo1, i1, _, mgo m1, ei1, ti1, bI1, iniBadNumber FI1 oo1 W.n1 W.n1b⟩
  let NBadRow : Ex l.prog w K mg b "BadRow" C2 ["row"] := ⟨oo2, i2, _, mgo m2, ei2, ti2, bI2, iniBadRow FI2 oo2 W.n2⟩
  let G_law_draw : Df l.prog w K mg b "_law_draw" 1 ["_law_pen_here", "_law_many"] spDraw := ⟨f1, _, mgo a1, k1, b1, ok_draw F1 B⟩
  let G_law_pick : Df l.prog w K mg b "_law_pick" 2 ["_law_pen_here", "_law_some"] spPick := ⟨f2, _, mgo a2, k2, b2, ok_pick F2 B G_law_draw⟩
  let G_law_pen : Df l.prog w K mg b "_law_pen" 1 ["_law_script"] (spPen K) := ⟨f0, _, mgo a0, k0, b0, ok_pen F0 B⟩
  let Gis_whole : Df l.prog w K mg b "is_whole" 1 ["value"] (spWhole K) := ⟨f3, _, mgo a3, k3, b3, ok_is_whole F3 T⟩
  let Gis_ratio : Df l.prog w K mg b "is_ratio" 2 ["value"] (spIsRatio K) := ⟨f4, _, mgo a4, k4, b4, ok_is_ratio F4 T Gis_whole⟩
  let Gis_ratio_row : Df l.prog w K mg b "is_ratio_row" 3 ["value"] (spIsRow K) := ⟨f5, _, mgo a5, k5, b5, ok_is_row F5 T (mgn zall) Gis_ratio⟩
  let Glowest : Df l.prog w K mg b "lowest" 1 ["top", "bottom"] spLow := ⟨f6, _, mgo a6, k6, b6, ok_lowest F6 T⟩
  let Gparts_of : Dx l.prog w K mg b "parts_of" 3 ["value", "what"] (spParts K C1) := ⟨f7, _, mgo a7, k7, b7, ok_parts F7 T Gis_ratio NBadNumber⟩
  let Gtold : Dx l.prog w K mg b "told" 4 ["value", "what"] (spTold K C1) := ⟨f8, _, mgo a8, k8, b8, ok_told F8 Gparts_of Glowest⟩
  let Gplus : Dx l.prog w K mg b "plus" 4 ["one", "other"] (spTwo K C1 (okLow gPlus)) := ⟨f9, _, mgo a9, k9, b9, ok_plus F9 Gparts_of Glowest NBadNumber⟩
  let Gtimes : Dx l.prog w K mg b "times" 4 ["one", "other"] (spTwo K C1 (okLow gTimes)) := ⟨f10, _, mgo a10, k10, b10, ok_times F10 Gparts_of Glowest NBadNumber⟩
  let PM : PoM l.prog w K mg b CP C2 := ⟨PC, g0, _, ⟨PMk, eg0, fn_of_ty tg0, PKp⟩, bg0, ok_poly_init FG0 T PC NBadRow Gis_ratio_row Gtold, g1, _, eg1, fn_of_ty tg1, bg1, ok_poly_eq FG1 T mm1 PC⟩
  let Gbehind_spaces : Df l.prog w K mg b "behind_spaces" 1 ["text", "at"] spBeh := ⟨f11, _, mgo a11, k11, b11, ok_beh F11⟩
  let Gis_digit : Df l.prog w K mg b "is_digit" 1 ["text", "at"] spIsD := ⟨f12, _, mgo a12, k12, b12, ok_isd F12 T (mgo acDIGITS)⟩
  let Gread_whole : Dx l.prog w K mg b "read_whole" 3 ["text", "at"] (spRW C0) := ⟨f13, _, mgo a13, k13, b13, ok_rw F13 T NBadText (mgo acMOST_DIGITS) Gis_digit⟩
  let Gread_number : Dx l.prog w K mg b "read_number" 4 ["text", "at"] (spRN C0) := ⟨f14, _, mgo a14, k14, b14, ok_rn F14 T NBadText Gread_whole⟩
  let Gread_power : Dx l.prog w K mg b "read_power" 3 ["text", "at"] (spRP C0) := ⟨f15, _, mgo a15, k15, b15, ok_rp F15 T NBadText Gis_digit⟩
  let Gread_term : Dx l.prog w K mg b "read_term" 5 ["text", "at"] (spRT C0) := ⟨f16, _, mgo a16, k16, b16, ok_rt F16 T Gbehind_spaces Gread_number Gread_power⟩
  let Gsign_at : Df l.prog w K mg b "sign_at" 1 ["text", "at"] spSg := ⟨f17, _, mgo a17, k17, b17, ok_sg F17⟩
  let Gread_terms : Dx l.prog w K mg b "read_terms" 6 ["text", "at"] (spRTs C0) := ⟨f18, _, mgo a18, k18, b18, ok_rts F18 T Gbehind_spaces Gread_term Gsign_at Gtimes⟩
  let Gread_poly : Dx l.prog w K mg b "read_poly" 7 ["text", "at"] (spRPl C0) := ⟨f19, _, mgo a19, k19, b19, ok_rpl F19 T PM Gread_terms Gplus⟩
  let Gpoly_of : Dx l.prog w K mg b "poly_of" 8 ["text"] (spPolyOf K C0) := ⟨f20, _, mgo a20, k20, b20, ok_polyof F20 T NBadText Gread_poly⟩
  let G_law_next : Df l.prog w K mg b "_law_next" 1 ["_law_state", "_law_sign"] spNext := ⟨f21, _, mgo a21, k21, b21, ok_next F21 T⟩
  let G_law_column : Df l.prog w K mg b "_law_column" 2 ["_law_text"] spCol := ⟨f22, _, mgo a22, k22, b22, ok_col F22 T (mgn zenumerate) G_law_next⟩
  exact ok_law (C := ([C0, C1, C2, C3, C4, C5, C6].getD · 0)) F24 T W mm1 cL Pt rfl hTb Y G_law_pen G_law_draw G_law_pick G_law_column Gpoly_of
end Vf

open PySem PySem.W PyProof.Rows
set_option maxRecDepth 100000 in
set_option maxHeartbeats 0 in
theorem PySem.Challenge.cw_nearcurves_k08_whole_first_wrong_signs_o_holds : PySem.Challenge.rw_nearcurves_k08_whole_first_wrong_signs_o.Holds := by
  w_on; o_law; k_head; (case hw => w_witness2)
  k_fill
  refine Vf.walkT (l := PySem.Challenge.rw_nearcurves_k08_whole_first_wrong_signs_o) (n := 63) (k := 12) (C := fun _ => L2.CX0) (x := "_law_script") rfl (by decide) rfl ⟨rfl, by decide, by decide⟩ (by decide +kernel) (fun w h Y => PySem.W.km_in_of Y) ?F (fun _ _ _ _ _ z => z)
  case F =>
    intro w mg fa h Y X G hmg TB
    refine' Vf.all_mk X G hmg TB ?a0 ?l0 ?c0 ?k0 ?a1 ?l1 ?c1 ?k1 ?a2 ?l2 ?c2 ?k2 ?a3 ?l3 ?c3 ?k3 ?a4 ?l4 ?c4 ?k4 ?a5 ?l5 ?c5 ?k5 ?a6 ?l6 ?c6 ?k6 ?a7 ?l7 ?c7 ?k7 ?a8 ?l8 ?c8 ?k8 ?a9 ?l9 ?c9 ?k9 ?a10 ?l10 ?c10 ?k10 ?a11 ?l11 ?c11 ?k11 ?a12 ?l12 ?c12 ?k12 ?a13 ?l13 ?c13 ?k13 ?a14 ?l14 ?c14 ?k14 ?a15 ?l15 ?c15 ?k15 ?a16 ?l16 ?c16 ?k16 ?a17 ?l17 ?c17 ?k17 ?a18 ?l18 ?c18 ?k18 ?a19 ?l19 ?c19 ?k19 ?a20 ?l20 ?c20 ?k20 ?a21 ?l21 ?c21 ?k21 ?a22 ?l22 ?c22 ?k22 ?a23 ?l23 ?c23 ?k23 ?a24 ?l24 ?c24 ?k24 ?tl ?tv ?tn ?tr ?aggcd ?acDIGITS ?acMOST_DIGITS ?m0 ?m1 ?m2 ?m3 ?m4 ?m5 ?m6 ?ei0 ?ti0 ?li0 ?ci0 ?ki0 ?lc0 ?lb0 ?ei1 ?ti1 ?li1 ?ci1 ?ki1 ?lc1 ?lb1 ?ei2 ?ti2 ?li2 ?ci2 ?ki2 ?lc2 ?lb2 ?mP ?eg0 ?tg0 ?lg0 ?cg0 ?kg0 ?eg1 ?tg1 ?lg1 ?cg1 ?kg1 ?zint ?zlist ?zlen ?zrange ?zstr ?zrepr ?zisinstance ?zbool ?ztuple ?zabs ?zall ?zenumerate ?big ?bigP
    (case a0 => k_is)
    (case l0 => k_is)
    (case c0 => k_is)
    (case k0 => k_is)
    (case a1 => k_is)
    (case l1 => k_is)
    (case c1 => k_is)
    (case k1 => k_is)
    (case a2 => k_is)
    (case l2 => k_is)
    (case c2 => k_is)
    (case k2 => k_is)
    (case a3 => k_is)
    (case l3 => k_is)
    (case c3 => k_is)
    (case k3 => k_is)
    (case a4 => k_is)
    (case l4 => k_is)
    (case c4 => k_is)
    (case k4 => k_is)
    (case a5 => k_is)
    (case l5 => k_is)
    (case c5 => k_is)
    (case k5 => k_is)
    (case a6 => k_is)
    (case l6 => k_is)
    (case c6 => k_is)
    (case k6 => k_is)
    (case a7 => k_is)
    (case l7 => k_is)
    (case c7 => k_is)
    (case k7 => k_is)
    (case a8 => k_is)
    (case l8 => k_is)
    (case c8 => k_is)
    (case k8 => k_is)
    (case a9 => k_is)
    (case l9 => k_is)
    (case c9 => k_is)
    (case k9 => k_is)
    (case a10 => k_is)
    (case l10 => k_is)
    (case c10 => k_is)
    (case k10 => k_is)
    (case a11 => k_is)
    (case l11 => k_is)
    (case c11 => k_is)
    (case k11 => k_is)
    (case a12 => k_is)
    (case l12 => k_is)
    (case c12 => k_is)
    (case k12 => k_is)
    (case a13 => k_is)
    (case l13 => k_is)
    (case c13 => k_is)
    (case k13 => k_is)
    (case a14 => k_is)
    (case l14 => k_is)
    (case c14 => k_is)
    (case k14 => k_is)
    (case a15 => k_is)
    (case l15 => k_is)
    (case c15 => k_is)
    (case k15 => k_is)
    (case a16 => k_is)
    (case l16 => k_is)
    (case c16 => k_is)
    (case k16 => k_is)
    (case a17 => k_is)
    (case l17 => k_is)
    (case c17 => k_is)
    (case k17 => k_is)
    (case a18 => k_is)
    (case l18 => k_is)
    (case c18 => k_is)
    (case k18 => k_is)
    (case a19 => k_is)
    (case l19 => k_is)
    (case c19 => k_is)
    (case k19 => k_is)
    (case a20 => k_is)
    (case l20 => k_is)
    (case c20 => k_is)
    (case k20 => k_is)
    (case a21 => k_is)
    (case l21 => k_is)
    (case c21 => k_is)
    (case k21 => k_is)
    (case a22 => k_is)
    (case l22 => k_is)
    (case c22 => k_is)
    (case k22 => k_is)
    (case a23 => k_is)
    (case l23 => k_is)
    (case c23 => k_is)
    (case k23 => k_is)
    (case a24 => k_is)
    (case l24 => k_is)
    (case c24 => k_is)
    (case k24 => k_is)
    (case tl => k_is)
    (case tv => first | rfl | k_is)
    (case tn => first | kernel_rfl | k_is)
    (case tr => decide +kernel)
    (case aggcd => k_is)
    (case acDIGITS => k_is)
    (case acMOST_DIGITS => k_is)
    (case m0 => k_is)
    (case m1 => k_is)
    (case m2 => k_is)
    (case m3 => k_is)
    (case m4 => k_is)
    (case m5 => k_is)
    (case m6 => k_is)
    (case ei0 => k_is)
    (case ti0 => k_is)
    (case li0 => k_is)
    (case ci0 => k_is)
    (case ki0 => k_is)
    (case lc0 => k_is)
    (case lb0 => decide +kernel)
    (case ei1 => k_is)
    (case ti1 => k_is)
    (case li1 => k_is)
    (case ci1 => k_is)
    (case ki1 => k_is)
    (case lc1 => k_is)
    (case lb1 => decide +kernel)
    (case ei2 => k_is)
    (case ti2 => k_is)
    (case li2 => k_is)
    (case ci2 => k_is)
    (case ki2 => k_is)
    (case lc2 => k_is)
    (case lb2 => decide +kernel)
    (case mP => k_is)
    (case eg0 => k_is)
    (case tg0 => k_is)
    (case lg0 => k_is)
    (case cg0 => k_is)
    (case kg0 => k_is)
    (case eg1 => k_is)
    (case tg1 => k_is)
    (case lg1 => k_is)
    (case cg1 => k_is)
    (case kg1 => k_is)
    (case zint => k_is)
    (case zlist => k_is)
    (case zlen => k_is)
    (case zrange => k_is)
    (case zstr => k_is)
    (case zrepr => k_is)
    (case zisinstance => k_is)
    (case zbool => k_is)
    (case ztuple => k_is)
    (case zabs => k_is)
    (case zall => k_is)
    (case zenumerate => k_is)
    (case big => kernel_rfl)
    (case bigP => kernel_rfl)
