import PyProof.Rows.All
import Wide.All
import OpenK.AllK
import Wide.FinOn
import HandS.ForMost
import HandS.AnyAll
import HandS.IsInst
import HandS.Style
import HandS.Defaults
import HandS.Head0
import HandS.Head1
import HandS.Head2
import HandS.HeadEnd
import HandS.HeadHook1
import HandS.HeadHook2
import HandS.HeadHook3
import HandS.HeadHook4
import HandS.HeadWalk
import HandS.GenList
import HandS.GenOver
import HandS.Iter
import PyProof.ReprRoads
import HandS.EndBits
import HandS.EndTab
import HandS.TupAny
import PySem.Challenge.RW_mastershow_k03_what_are_lines
set_option Elab.async false
set_option linter.all false
set_option maxRecDepth 100000
set_option maxHeartbeats 2000000
/-! all(test of sign for sign in text), the test over the module's own names -/
namespace Gx
open PySem PySem.Spec PyProof.Rows L2 GxR

/-- the element, in any frame of the generator, over the module as it stands -/
def EltG (X : Cx) (scope : Scope) (x : Str) (elt : Expr) (pb : Nat → Bool) : Prop :=
  ∀ (ge : Env) (B : Around) (F : Value → Shared → Prop) (c : Nat) (tk : Tok) (z : Shared) (m : Str → Option Value),
    ge.scope = scope → ge.globals = X.env.globals → z.heap.Ns ge.locals m → m x = some (.str ⟨#[c]⟩ tk) →
    (∀ b o, X.base.get? b = some o → z.heap.get? b = some o) → z.heap.Ns ge.globals X.mg →
    wpAny (model X.prog X.w) B (eval elt ge) (fun y z' => y = .bool (pb c) ∧ Keeps z z') F z

/-- x in G, G a text of the module's -/
theorem elt_inG {X : Cx} {scope : Scope} {x g : Str} {zs : Str} {tz : Tok} {p1 p2 p3 : Pos} (hk : scope.kind = .function) (hl : scope.names.lookup x = some .local)
    (hg : scope.names.lookup g = some .globalImplicit) (hm : X.mg g = some (.str zs tz)) (hd : (x == ("__debug__" : Str)) = false := by decide) (hd2 : (g == ("__debug__" : Str)) = false := by decide) :
    EltG X scope x (.Compare (.Name x p1) [.In] [.Name g p2] p3) (fun c => decide (c ∈ zs.cps.toList)) := by
  intro ge B F c tk z m hs hgl hn hx hb hN
  have kd : ge.scope.kind = .function := by rw [hs]; exact hk
  have kx : ge.scope.names.lookup x = some .local := by rw [hs]; exact hl
  have kg : ge.kindOf g = some .globalImplicit := (show ge.scope.names.lookup g = some .globalImplicit by rw [hs]; exact hg)
  refine wpAny_Compare1 ?_
  refine wpAny_Name (wpAny_loadName_local kd kx hn hx ?_) hd
  refine Calls.Name_function_global kd kg (Calls.loadGlobal_global hN hm ?_) hd2
  refine PyProof.Rows.in_str ?_
  exact ⟨congrArg Value.bool (PySem.StrLaws.found_one zs c), keeps_tok z z.toks⟩

/-- a or b -/
theorem elt_or {X : Cx} {scope : Scope} {x : Str} {a b : Expr} {pa pb : Nat → Bool} {p : Pos} (ha : EltG X scope x a pa) (hb : EltG X scope x b pb) :
    EltG X scope x (.BoolOp .Or [a, b] p) (fun c => pa c || pb c) := by
  intro ge B F c tk z m hs hgl hn hx hbs hN
  refine BoolOp_or (wpAny_mono (ha ge B F c tk z m hs hgl hn hx hbs hN) (fun v z1 hv => ?_) fun _ _ e => e)
  obtain ⟨rfl, h', t', rfl, kp⟩ := hv
  refine wpAny_truthy_bool ?_
  cases hp : pa c with
  | true =>
    refine ⟨?_, h', t', rfl, kp⟩
    show Value.bool true = Value.bool (pa c || pb c)
    rw [hp] <;> rfl
  | false =>
    refine BoolOp_one (wpAny_mono (hb ge B F c tk { z with heap := h', toks := t' } m hs hgl (hn.keeps kp) hx (fun q o e => kp q o (hbs q o e)) (hN.keeps kp)) (fun v z1 hv => ?_) fun _ _ e => e)
    obtain ⟨rfl, h2, t2, rfl, kp2⟩ := hv
    refine ⟨?_, h2, t2, rfl, fun q o e => kp2 q o (kp q o e)⟩
    show Value.bool (pb c) = Value.bool (pa c || pb c)
    rw [hp] <;> rfl

section
variable {X : Cx} {pins : List (Addr × Obj)} {σ : L2.St} {H : Hp} {s : Shared}
theorem gen_G {c P : Addr} {elt iter : Expr} {x : Str} {px gpos : Pos} {scope : Scope} {pb : Nat → Bool} {te : TE} {k : Nat} {W : Value → Shared → Prop} {R : Str → Hp → Prop}
    (room : Room k X.A) (tb : TabB X.base X.mg c P) (code : X.env.code = .ref c) (gs : GenS X.env scope x) (it : PE X iter te) (el : EltG X scope x elt pb)
    (fold : ∀ v, genFold iter X.env v = pure v) (I : Inv X pins σ H s) (h : te σ H fun v H1 => ∃ a : Str, v = .str a ∧ TabG H1 P ∧ R a H1)
    (fin : ∀ a H1 g s5, R a H1 → Ready X pins σ H1 P a pb g s5 → W (.ref g) s5) :
    wpAny (model X.prog X.w) X.A (eval (.GeneratorExp elt [⟨.Name x px, iter, [], 0⟩] scope gpos) X.env) W X.xe s := by
  refine wpAny_GeneratorExp_walksQ room.hd gs.co (closure_ok gs.free) gs.cell gs.dot gs.loc gs.kind (Nat.lt_of_le_of_lt (Nat.le_add_right X.A.depth (3 * k + 5)) (by have := room.dp; omega)) ?_ fold
  refine thn (it.run pins s σ H _ I h) ?_
  rintro xv s1 ⟨v, H1, J, rv, a, rfl, ⟨ps, tP, trip⟩, r⟩
  obtain ⟨t, rfl⟩ := _root_.id rv
  refine wpAny_pyIter_str fun o St walks st0 => ?_
  have atP := J.hok P _ tP
  have atP : s1.heap.get? P = some { cls := .none, data := .fields ps } := atP
  have ltP := Heap.lt_size atP
  have atP' : (s1.heap.push o).get? P = some { cls := .none, data := .fields ps } := Heap.get?_push_of_some _ atP
  have head := tb.code.keeps (h' := s1.heap.push o) fun b u e => Heap.get?_push_of_some _ (J.bk b u e)
  have lim := J.nolimit.push o
  have baseP : ∀ b u, X.base.get? b = some u → b ≠ P := fun b u e q => by
    have n := (J.bs b u e).2
    rw [q, tP] at n
    cases n
  have after : ∀ (cd : Value) (h3 : Heap) (tk : Nat) (ps' : Array Value), Heap.ExtBut P (s1.heap.push o) h3 → (s1.heap.push o).objs.size ≤ h3.objs.size → h3.get? P = some { cls := .none, data := .fields ps' } → (∃ more, ps' = ps ++ more) → TriplesOk ps'.toList →
      wpAny (model X.prog X.w) X.A (builtinsFor X.env.globals X.env.builtins) (fun bi s₄ =>
        ∃ Ia fp wr n₀ Pf St₀ pz F, Value.ref s1.heap.objs.size = .ref Ia ∧ (∀ A' : Around, A'.handled = none → Walks X.prog X.w A' Ia fp wr n₀ Pf St₀) ∧ St₀ 0 s₄.heap ∧ (∀ b ∈ fp, b < s₄.heap.objs.size) ∧ s₄.heap.NoLimit ∧ cStatics ∉ wr ∧
          (∀ href : Heap, (∀ b o, s₄.heap.get? b = some o → href.get? b = some o) →
            QuietGen X.prog X.w (genEnv scope (cloFrom X.env.cells scope.names []) s₄.heap.objs.size cd bi X.env) x [] elt (List.range s₄.heap.objs.size) wr Pf pz F href) ∧
          (∀ a h₅ tk gs, gs.bare = true → s₄.heap.objs.size < a → h₅.objs.size = a + 1 → (∀ b o, s₄.heap.get? b = some o → h₅.get? b = some o) →
            WalksS X.prog X.w X.A.in4 a (a :: s₄.heap.objs.size :: List.range s₄.heap.objs.size) (s₄.heap.objs.size :: wr) (GenOnlyQ s₄.gens.size) (passing pz n₀ 0).length
              (fun j y => ∃ i, (passing pz n₀ 0)[j]? = some i ∧ F i y) (GenAt X.prog X.w X.A.in4 a s₄.gens.size s₄.heap.objs.size (List.range s₄.heap.objs.size) wr pz n₀ F) →
            GenAt X.prog X.w X.A.in4 a s₄.gens.size s₄.heap.objs.size (List.range s₄.heap.objs.size) wr pz n₀ F 0 { s₄ with gens := s₄.gens.push gs, toks := tk, heap := h₅ } →
            W (.ref a) { s₄ with gens := s₄.gens.push gs, toks := tk, heap := h₅ })) X.xe { s1 with heap := h3, toks := tk } := by
    intro cd h3 tk ps' ext size atP3 grown trip3
    obtain ⟨bm, ob, e1, e2, e3, e4, e5, e6, e7, e8⟩ := tb.bm
    have statP : cStatics ≠ P := fun e => by
      obtain ⟨_, hns, _⟩ := J.nolimit
      obtain ⟨o', es, ep, ho, hd, _⟩ := hns
      rw [e, atP] at ho
      cases ho
      cases hd
    have statLt : cStatics < s1.heap.objs.size := let ⟨_, hns, _⟩ := J.nolimit; hns.lt
    have sz2 : (s1.heap.push o).objs.size = s1.heap.objs.size + 1 := Heap.size_push ..
    have kept : ∀ b u, b ≠ P → s1.heap.get? b = some u → h3.get? b = some u := fun b u hb e => ext b u hb (Heap.get?_push_of_some _ e)
    have glob3 : h3.Ns X.env.globals X.mg := by
      rw [J.ok.glob]
      exact ((J.mod.glob.keeps J.bk).push o).extBut ext tb.gP
    refine wpAny_builtinsFor (m := X.mg) glob3 e1 e2 (kept _ _ e4 (J.bk _ _ e5)) e6 e7 e8 ?_
    refine ⟨s1.heap.objs.size, [s1.heap.objs.size], [s1.heap.objs.size], a.cps.size, SignAt a, St, (fun _ => true), (fun i y => ∃ cc, a.cps[i]? = some cc ∧ y = .bool (pb cc)), rfl, walks, ?_, ?_, lim.extBut ext statP, ?_, ?_, ?_⟩
    · refine (walks X.A room.hd).frame _ _ _ st0 fun b hb u e => ext b u (fun z => ?_) e
      have q := List.mem_singleton.mp hb
      exact Nat.ne_of_lt ltP (z.symm.trans q)
    · intro b hb
      rw [List.mem_singleton.mp hb]
      show s1.heap.objs.size < h3.objs.size
      omega
    · intro z
      exact Nat.ne_of_lt statLt (List.mem_singleton.mp z)
    · intro href hhref
      have seen : ∀ s₂ : Shared, (∀ b ∈ List.range h3.objs.size, b ∉ [s1.heap.objs.size] → ∀ o, href.get? b = some o → s₂.heap.get? b = some o) → ∀ b u, b ≠ P → s1.heap.get? b = some u → s₂.heap.get? b = some u := fun s₂ hk b u hb e => by
        have l1 := Heap.lt_size e
        refine hk b (List.mem_range.mpr (Nat.lt_of_lt_of_le l1 (by omega))) (fun q => Nat.ne_of_lt l1 (List.mem_singleton.mp q)) u (hhref b u (kept b u hb e))
      refine ⟨fun A' E' i v s₂ m₂ hA hPv hn hm hk => ?_, fun A' E' i v s₂ m₂ hA hPv hp hn hm hk => ?_⟩
      · simp only [List.forIn_nil]
        exact wpAny_pure ⟨rfl, keeps_refl _⟩
      · obtain ⟨cc, u, hcc, rfl⟩ := hPv
        have gl2 : s₂.heap.Ns X.env.globals X.mg := by
          obtain ⟨og, es, ep, eg, dg, rg⟩ := J.mod.glob
          rw [J.ok.glob]
          exact ⟨og, es, ep, seen s₂ hk _ _ tb.gP (J.bk _ _ eg), dg, rg⟩
        exact wpAny_mono (el _ A' E' cc u s₂ m₂ rfl rfl hn hm (fun b o e => seen s₂ hk b o (baseP b o e) (J.bk b o e)) gl2) (fun y s3 r => ⟨⟨cc, hcc, r.1⟩, r.2⟩) fun _ _ e => e
    · intro g h5 tk5 gst hgb hag hsz5 hk5 W5 hat
      have ep : passing (fun _ : Nat => true) a.cps.size 0 = List.range a.cps.size := GxR.passing_true a.cps.size
      simp only [ep, List.length_range] at W5
      refine fin a H1 g _ r ⟨_, _, _, _, _, W5.in4_1, hat, ?_, fun s' hm => ?_⟩
      · intro j y sj Qj Ej hy hQj
        obtain ⟨i, hij, cc, hcc, rfl⟩ := hy
        obtain ⟨hj, ej⟩ := List.getElem?_eq_some_iff.mp hij
        rw [List.getElem_range] at ej
        subst ej
        have e9 : a.cps.toList[j]? = some cc := by rw [Array.getElem?_toList]; exact hcc
        have hQ2 : Qj (trF pb a.cps.toList j) sj := hQj
        rw [trF_some e9] at hQ2
        exact wpAny_truthy_bool hQ2
      · obtain ⟨more, em⟩ := grown
        have nwr : ∀ b u, s1.heap.get? b = some u → b ∉ h3.objs.size :: [s1.heap.objs.size] := fun b u e hb => by
          have hl := Heap.lt_size e
          rcases List.mem_cons.mp hb with z | z
          · have h9 : (h3.objs.size : Nat) < s1.heap.objs.size := by rw [z] at hl; exact hl
            omega
          · exact Nat.ne_of_lt hl (List.mem_singleton.mp z)
        have after := inv_tab (more := more) (h' := s'.heap) (g' := s'.gens) (d' := s'.drawn) (t' := s'.toks) J tP (fun b u hb e => hm.heap b u (nwr b u e) (hk5 b u (kept b u hb e)))
          (by rw [← em]; exact hm.heap P _ (nwr P _ atP) (hk5 P _ atP3)) (AllBare.movedS (J.bare.push hgb) hm)
        rw [sh_eta s1 s' hm.os] at after
        exact ⟨upd H1 P (.tbl (ps ++ more)), ⟨⟨ps ++ more, upd_same, by rw [← em]; exact trip3⟩, fun b hb => upd_ne hb⟩, after⟩
  refine ⟨lim, ?_⟩
  cases hf : codeAmong gpos ps.toList with
  | none =>
    refine wpAny_genexprCodeX code (head.code atP' trip) (head.tab atP') hf fun c' h' tk hx hge hlt hco' _ htab' _ => ?_
    obtain ⟨o1, vs, f1, tf, fl, tg, inF, tx, tt, op, _, _, _, _, _, _, _, _, _, htr, _⟩ := hco'
    exact after _ h' tk _ hx (Nat.le_trans hge (Nat.le_of_lt hlt)) htab'.2 ⟨_, rfl⟩ htr
  | some cv =>
    refine wpAny_genexprCode_hit code (head.code atP' trip) hf ?_
    exact after cv (s1.heap.push o) s1.toks ps (Heap.ExtBut.refl _ _) (Nat.le_refl _) atP' ⟨#[], by simp⟩ trip
theorem pe_allG {c P : Addr} {elt iter : Expr} {x : Str} {px p pos gpos : Pos} {scope : Scope} {pb : Nat → Bool} {te : TE} {k : Nat}
    (room : Room k X.A) (hg : Gl X "all") (hm : X.mg "all" = none) (tb : TabB X.base X.mg c P) (code : X.env.code = .ref c) (gs : GenS X.env scope x) (it : PE X iter te) (el : EltG X scope x elt pb)
    (fold : ∀ v, genFold iter X.env v = pure v := by intro _; rfl)
    (he : starEach [.GeneratorExp elt [⟨.Name x px, iter, [], 0⟩] scope gpos] X.env = (false, eval (.GeneratorExp elt [⟨.Name x px, iter, [], 0⟩] scope gpos) X.env) :: starEach [] X.env := by rfl) :
    PE X (.Call (.Name "all" p) [.GeneratorExp elt [⟨.Name x px, iter, [], 0⟩] scope gpos] [] pos) (tAllS P pb te) := by
  refine ⟨fun pins s σ H Q I h => ?_⟩
  refine wpAny_Call_Name_kw (ld_blt (u := .builtin "all") I hg hm (by decide +kernel) ?_)
  refine PyProof.Rows.callWith_builtin1 ?_ he (by rfl)
  rw [he]
  show wpAny _ _ (spliced ((false, eval (.GeneratorExp elt [⟨.Name x px, iter, [], 0⟩] scope gpos) X.env) :: backTo pos (starEach [] X.env))) _ _ s
  refine Calls.spliced_cons (gen_G (R := fun a H1 => ∀ H2, Tabbed P H1 H2 → Q (.bl (a.cps.toList.all pb)) H2) room tb code gs it el fold I h fun a H1 g s5 hR hG => ?_)
  obtain ⟨fp, wr, G, F, St, W, hst, htr, hI⟩ := hG
  refine Calls.spliced_nil ?_
  refine call_all_walkS (W.self 0 _ _ _ hst ⟨g, fp, wr, G, _, F, St, _, rfl, W, hst, htr, fun s' hmv => ?_⟩)
  obtain ⟨H2, hT, J⟩ := hI s' hmv
  refine ⟨.bl _, H2, J, rfl, ?_⟩
  rw [all_signs a pb]
  exact hR H2 hT
end
end Gx

set_option Elab.async false
set_option linter.all false
set_option maxRecDepth 100000
set_option maxHeartbeats 2000000
/-! What all these proofs share: a def by its name, kinds of things, the pen that draws. -/
namespace Gx
open PySem PySem.Spec PyProof.Rows L2 GxR
/-! ### a def of the module, by its name -/
structure Dn (P : Program) (w : World) (K : PySem.W.Frag) (mg : Str → Option Value) (base : Heap) (k : Nat) (x : Str) (ps : List Str) (sp : Sp) : Prop where
  ex : ∃ (f : Addr) (fd : FuncData), mg x = some (.ref f) ∧ PySem.W.keepIn K (.ref f) = true ∧ Binds K fd ps [] ∧ FnOk P w K mg base CX0 k f fd ps sp
section
variable {X : Cx} {k : Nat} {x : Str} {ps : List Str} {sp : Sp} {p pos : Pos} {e : Expr} {es : List Expr} {t : TA}
theorem pe_dn (D : Dn X.prog X.w X.K X.mg X.base k x ps sp) (hr : Room k X.A) (hg : Gl X x) (ha : PA X (e :: es) t) (hdb : (x == ("__debug__" : Str)) = false := by decide)
    (he : starEach (e :: es) X.env = (false, eval e X.env) :: starEach es X.env := by rfl) (hpl : (backTo pos (starEach es X.env)).any (·.1) = false := by rfl) :
    PE X (.Call (.Name x p) (e :: es) [] pos) (tCall sp [] E0 t) := by
  obtain ⟨f, fd, hm, hk, hb, F⟩ := D.ex
  exact pe_call F hr hg hm hk hb .nil pass0 ha hdb he hpl
theorem pe_dn0 (D : Dn X.prog X.w X.K X.mg X.base k x ps sp) (hr : Room k X.A) (hg : Gl X x) (hdb : (x == ("__debug__" : Str)) = false := by decide) :
    PE X (.Call (.Name x p) [] [] pos) (tCall sp [] E0 tNil) := by
  obtain ⟨f, fd, hm, hk, hb, F⟩ := D.ex
  exact pe_call0 F hr hg hm hk hb .nil pass0 hdb
end
section
variable {P : Program} {w : World} {K : PySem.W.Frag} {mg : Str → Option Value} {base : Heap}
/-- a def whose code object is told -/
theorem okC {x qual : Str} {params : Arguments} {body : List Stmt} {scope : Scope} {dvs : List V} {kws : List (Str × V)} {d : He.Defn} {fd : FuncData} {CX : CXT} {N ps : List Str} {k : Nat} {sp : Sp}
    (F : FunD K x qual params body scope dvs kws (He.fAd K d) fd) (S : FnScope N ps scope) (len : ∀ vs H Q E, sp vs H Q E → vs.length = ps.length)
    (hbody : ∀ (c : Value) (A : Around) (outer : List Env) (s : Shared) (H : Hp) (vs : List V) (Q : VK) (E : XK), c = .ref (He.codeOf K d) → Room k (A.deeper (envOfC qual scope s.heap.objs.size (He.fAd K d) c)) → sp vs H Q E →
      ∃ t, PSs (cxOf CX P w K mg base N qual scope (He.fAd K d) c A outer s H E) body t ∧ t { nx := fun _ H' => Q .non H', rt := Q } (start N vs) H) : FnOk P w K mg base CX (k + 1) (He.fAd K d) fd ps sp := by
  obtain ⟨oc, od, dV, kV, doc, pm, an, cdv, ct, osl, rfl, lk, hcd, _, _⟩ := F.ex
  obtain ⟨c, rfl⟩ := He.codeIn_ref hcd
  exact fn_of lk hcd S len fun A outer s H vs Q E hr hsp => hbody _ A outer s H vs Q E (congrArg Value.ref (He.codeOf_eq lk rfl).symm) hr hsp
end
theorem iteNb {b : Bool} {A B : Prop} (h1 : b = false → A) (h2 : b = true → B) : if (!b) = true then A else B := by
  cases b with
  | false => exact h1 rfl
  | true => exact iteF (h2 rfl)
theorem iteB {b : Bool} {A B : Prop} (h1 : b = true → A) (h2 : b = false → B) : if b = true then A else B := by
  cases b with
  | true => exact h1 rfl
  | false => exact iteF (h2 rfl)
theorem at_any {α : Type} {xs : List α} {z : Int} {j : Nat} {v : α} (e : z = (j : Int)) (h : xs[j]? = some v) : atI xs z = some v := by
  rw [e]
  exact atI_nat h
/-- two ways that meet again with some number -/
theorem viaInt {A : Prop} {R : Int → Prop} (h : (∀ c, R c) → A) (r : ∀ c, R c) : A := h r
section
variable {P : Program} {w : World} {K : PySem.W.Frag} {mg : Str → Option Value} {base : Heap} {x qual : Str} {params : Arguments} {body : List Stmt} {scope : Scope} {dvs : List V} {kws : List (Str × V)} {N ps : List Str} {k : Nat} {sp : Sp}
/-- a def that raises nothing -/
theorem okN {f : Addr} {fd : FuncData} {CX : CXT} (F : FunD K x qual params body scope dvs kws f fd) (S : FnScope N ps scope) (len : ∀ vs H Q E, sp vs H Q E → vs.length = ps.length)
    (hbody : ∀ (c : Value) (A : Around) (outer : List Env) (s : Shared) (H : Hp) (vs : List V) (Q : VK) (E : XK), Room k (A.deeper (envOfC qual scope s.heap.objs.size f c)) → sp vs H Q E →
      ∃ t, PSs (cxOf CX P w K mg base N qual scope f c A outer s H E).nox body t ∧ t { nx := fun _ H' => Q .non H', rt := Q } (start N vs) H) : FnOk P w K mg base CX (k + 1) f fd ps sp :=
  F.ok S len fun c A outer s H vs Q E hr h => let ⟨t, ht, q⟩ := hbody c A outer s H vs Q E hr h; ⟨t, ht.nox, q⟩
theorem okCN {d : He.Defn} {fd : FuncData} {CX : CXT} (F : FunD K x qual params body scope dvs kws (He.fAd K d) fd) (S : FnScope N ps scope) (len : ∀ vs H Q E, sp vs H Q E → vs.length = ps.length)
    (hbody : ∀ (c : Value) (A : Around) (outer : List Env) (s : Shared) (H : Hp) (vs : List V) (Q : VK) (E : XK), c = .ref (He.codeOf K d) → Room k (A.deeper (envOfC qual scope s.heap.objs.size (He.fAd K d) c)) → sp vs H Q E →
      ∃ t, PSs (cxOf CX P w K mg base N qual scope (He.fAd K d) c A outer s H E).nox body t ∧ t { nx := fun _ H' => Q .non H', rt := Q } (start N vs) H) : FnOk P w K mg base CX (k + 1) (He.fAd K d) fd ps sp :=
  okC F S len fun c A outer s H vs Q E hc hr h => let ⟨t, ht, q⟩ := hbody c A outer s H vs Q E hc hr h; ⟨t, ht.nox, q⟩
end
/-- a generator's scope that takes nothing from the def around it -/
theorem gs_plain {env : Env} {scope : Scope} {x : Str} (h1 : scope.kind = .function) (h2 : scope.isCoroutine = false) (h3 : scope.names.lookup (".0" : Str) = some NameKind.local) (h4 : scope.names.lookup x = some .local)
    (h5 : (scope.names.all fun y => decide (y.2 ≠ .cell) && decide (y.2 ≠ .free)) = true) : GenS env scope x := by
  have h6 := List.all_eq_true.mp h5
  refine ⟨h1, h2, fun y hy => ?_, h3, h4, fun y hy e => ?_⟩
  · have h7 := h6 y hy
    rw [Bool.and_eq_true] at h7
    exact of_decide_eq_true h7.1
  · have h7 := h6 y hy
    rw [Bool.and_eq_true] at h7
    exact absurd e (of_decide_eq_true h7.2)
/-! ### text * number -/
theorem op_mul_str {X : Cx} : OpR X (binaryOp .Mult) (fun x y H Q => ∃ (z : Str) (n : Int), x = .str z ∧ y = .int n ∧ MulOk z n ∧ Q (.str (Txt.mul z n)) H) := by
  intro pins s σ H x y v u Q I rx ry h
  obtain ⟨z, n, rfl, rfl, ok, q⟩ := h
  obtain ⟨t, rfl⟩ := rx
  obtain ⟨t', rfl⟩ := ry
  exact SB.mul ok fun t2 k => ⟨.str _, H, I.tok k, ⟨_, rfl⟩, q⟩
theorem mulOk {z : Str} {n : Int} (h1 : z.length ≤ 1000) (h2 : 0 ≤ n) (h3 : n ≤ 1000) : MulOk z n := by
  refine ⟨?_, fun h4 _ => ?_, fun h4 _ => ?_⟩
  · have a1 : ¬ n < -(2 ^ 63 : Int) := by omega
    have a2 : ¬ n ≥ 2 ^ 63 := by omega
    rw [decide_eq_false a1, decide_eq_false a2] <;> rfl
  · have h6 : (z.length : Int) * n ≤ 1000 * 1000 := Int.mul_le_mul (by omega) h3 h2 (by decide)
    have h5 : (z.length : Int) ≤ (2 ^ 63 - 1) / n := Int.le_ediv_of_mul_le (by omega) (by omega)
    omega
  · have h6 : z.length * n.toNat ≤ 1000 * 1000 := Nat.mul_le_mul h1 (by omega)
    show decide (z.length * n.toNat > sizeLine) = false
    exact decide_eq_false (by rw [sizeLine_eq]; omega)
/-! ### kinds of things -/
/-- a thing that the laws hand in: its type is known -/
inductive Th (H : Hp) : V → Prop where
  | non : Th H .non
  | bl (b : Bool) : Th H (.bl b)
  | int (i : Int) : Th H (.int i)
  | str (z : Str) : Th H (.str z)
  | lst {a : Addr} {xs : List V} (e : H a = some (.lst xs)) : Th H (.ref a)
  | tup {a : Addr} {xs : List V} (e : H a = some (.tup xs)) : Th H (.ref a)
  | dK {a : Addr} {kvs : List (Key × V)} (e : H a = some (.dK kvs)) : Th H (.ref a)
def isStr : V → Bool
  | .str _ => true
  | _ => false
def isBl : V → Bool
  | .bl _ => true
  | _ => false
theorem Th.str_ {K : PySem.W.Frag} {H : Hp} {v : V} (h : Th H v) : ∃ t, TyX K H v t ∧ PySem.W.kitOne K t (.type "str") = some (isStr v) := by
  cases h with
  | non => exact ⟨_, .base .non, kit_ty (r := false) (by decide +kernel)⟩
  | bl b => exact ⟨_, .base (.bl b), kit_ty (r := false) (by decide +kernel)⟩
  | int i => exact ⟨_, .base (.int i), kit_ty (r := false) (by decide +kernel)⟩
  | str z => exact ⟨_, .base (.str z), kit_ty (r := true) (by decide +kernel)⟩
  | lst e => exact ⟨_, .base (.lst e), kit_ty (r := false) (by decide +kernel)⟩
  | tup e => exact ⟨_, .base (.tup e), kit_ty (r := false) (by decide +kernel)⟩
  | dK e => exact ⟨_, .base (.dK e), kit_ty (r := false) (by decide +kernel)⟩
/-! ### names -/
def LETS : Str := "abcdefghijklmnopqrstuvwxyz"
def FIGS : Str := "0123456789"
def isLet (c : Nat) : Bool := decide (c ∈ LETS.cps.toList)
def isFig (c : Nat) : Bool := decide (c ∈ FIGS.cps.toList)
def nameB (z : Str) : Bool := decide (1 ≤ (z.length : Int)) && (decide ((z.length : Int) ≤ 8) && ((match z.cps.toList with
  | [] => false
  | c :: _ => isLet c) && z.cps.toList.all fun c => isLet c || isFig c))
def nameV : V → Bool
  | .str z => nameB z
  | _ => false
theorem nameV_no {v : V} (h : isStr v = false) : nameV v = false := by
  cases v <;> first | rfl | cases h
theorem cps_len (z : Str) : z.cps.toList.length = z.length := by simp [Str.length]
theorem head_of {z : Str} (h : 1 ≤ (z.length : Int)) : ∃ c r, z.cps.toList = c :: r := by
  have hl := cps_len z
  cases e : z.cps.toList with
  | nil =>
    rw [e] at hl
    have h1 : (0 : Nat) = z.length := hl
    omega
  | cons c r => exact ⟨c, r, rfl⟩
theorem all_id {l : List Nat} {pb : Nat → Bool} : (l.map pb).all id = l.all pb := by
  rw [List.all_map] <;> rfl
theorem both_lets (c : Nat) : decide (c ∈ (LETS ++ FIGS).cps.toList) = (isLet c || isFig c) := by
  have e : (LETS ++ FIGS).cps.toList = LETS.cps.toList ++ FIGS.cps.toList := by
    show (LETS.cps ++ FIGS.cps).toList = _
    rw [Array.toList_append]
  unfold isLet isFig
  rw [e, Bool.eq_iff_iff, decide_eq_true_eq, List.mem_append, Bool.or_eq_true, decide_eq_true_eq, decide_eq_true_eq]
/-- a list over a text's signs -/
theorem lc_str {z : Str} {g : TG} {tt : TT} {te : TE} {vs : List Nat} {σ : L2.St} {H1 : Hp} {D : Addr} {Qd : Hp → Prop} (Pv : Nat → Hp → Prop) (h0 : Pv 0 (upd H1 D (.lst [])))
    (hs : ∀ i c H, z.cps.toList[i]? = some c → Pv i H → g (.str ⟨#[c]⟩) (wipe σ vs) H fun σ2 H2 => wipe σ2 vs = wipe σ vs ∧ tt σ2 H2 fun b H3 =>
      if b = true then te σ2 H3 fun y H4 => ∃ acc, H4 D = some (.lst acc) ∧ acc.length < sizeLine ∧ Pv (i + 1) (upd H4 D (.lst (acc ++ [y]))) else Pv (i + 1) H3) (hd : ∀ H, Pv z.cps.toList.length H → Qd H) :
    ∃ W : Nat → Nat → Hp → Prop, (∃ m, W 0 m (upd H1 D (.lst []))) ∧ ∀ i m H, W i m H →
      ((Its z).stop i H ∧ Qd H) ∨ ((Its z).go i H ∧ ∃ Nx : Hp → Prop, (∀ H', Nx H' → ∃ m', m' < m ∧ W (i + 1) m' H') ∧ ∀ x H', (Its z).yld i H x H' → g x (wipe σ vs) H' fun σ2 H2 => wipe σ2 vs = wipe σ vs ∧ tt σ2 H2 fun b H3 =>
        if b = true then te σ2 H3 fun y H4 => ∃ acc, H4 D = some (.lst acc) ∧ acc.length < sizeLine ∧ Nx (upd H4 D (.lst (acc ++ [y]))) else Nx H3) := by
  have el : z.cps.toList.length = z.cps.size := Array.length_toList
  refine ⟨fun i m H => m = z.cps.size - i ∧ i ≤ z.cps.size ∧ Pv i H, ⟨_, rfl, Nat.zero_le _, h0⟩, ?_⟩
  rintro i m H ⟨rfl, hi, pv⟩
  rcases Nat.lt_or_ge i z.cps.size with lt | ge
  · refine .inr ⟨lt, Pv (i + 1), fun H' q => ⟨_, Nat.sub_succ_lt_self _ _ lt, rfl, lt, q⟩, ?_⟩
    rintro x H' ⟨rfl, c, ec, rfl⟩
    exact hs i c _ (by rw [Array.getElem?_toList]; exact ec) pv
  · obtain rfl : i = z.cps.size := Nat.le_antisymm hi ge
    exact .inl ⟨Nat.le_refl _, hd H (by rw [el]; exact pv)⟩
theorem bls_take {l : List Nat} {pb : Nat → Bool} {i c : Nat} (h : l[i]? = some c) : (l.take (i + 1)).map pb = (l.take i).map pb ++ [pb c] := by
  rw [List.take_add_one, h, List.map_append] <;> rfl
/-! ### the pen -/
structure Pen (H : Hp) (p L : Addr) (ns : List Int) (n : Nat) : Prop where
  at_ : ∃ a r : Int, H p = some (.lst [.ref L, .int a, .int r]) ∧ 0 ≤ a ∧ a ≤ n
  ls : H L = some (.lst (ns.map V.int))
  few : ns.length ≤ 63
theorem Pen.ne {H : Hp} {p L : Addr} {ns : List Int} {n : Nat} (h : Pen H p L ns n) : p ≠ L := by
  intro e
  obtain ⟨a, r, h1, _⟩ := h.at_
  have h2 := h.ls
  rw [← e, h1] at h2
  have h3 := HO.lst.inj (Option.some.inj h2)
  cases ns with
  | nil => cases h3
  | cons z r => cases (List.cons.inj h3).1
theorem Pen.up {H : Hp} {p L : Addr} {ns : List Int} {n m : Nat} (h : Pen H p L ns n) (hm : n ≤ m) : Pen H p L ns m := by
  obtain ⟨⟨a, r, h1, h2, h3⟩, h4, h5⟩ := h
  exact ⟨⟨a, r, h1, h2, by omega⟩, h4, h5⟩
/-- set anew -/
theorem Pen.put {H : Hp} {p L : Addr} {ns : List Int} {n m : Nat} {a r : Int} (h : Pen H p L ns n) (h1 : 0 ≤ a) (h2 : a ≤ m) : Pen (upd H p (.lst [.ref L, .int a, .int r])) p L ns m :=
  ⟨⟨a, r, upd_same, h1, h2⟩, by rw [upd_ne h.ne.symm]; exact h.ls, h.few⟩
theorem Pen.keep {H H' : Hp} {p L : Addr} {ns : List Int} {n : Nat} (h : Pen H p L ns n) (hp : H' p = H p) (hl : H' L = H L) : Pen H' p L ns n := by
  obtain ⟨⟨a, r, h1, h2, h3⟩, h4, h5⟩ := h
  exact ⟨⟨a, r, by rw [hp]; exact h1, h2, h3⟩, by rw [hl]; exact h4, h5⟩
theorem Pen.keep' {H H' : Hp} {p L : Addr} {ns : List Int} {n : Nat} (h : Pen H p L ns n) (k : Same H H') : Pen H' p L ns n := by
  obtain ⟨⟨a, r, h1, h2, h3⟩, h4, h5⟩ := h
  exact ⟨⟨a, r, k _ _ h1, h2, h3⟩, k _ _ h4, h5⟩
/-- only the pen has changed -/
def But (p : Addr) (H H' : Hp) : Prop := ∀ b, b ≠ p → H' b = H b
theorem But.refl {p : Addr} {H : Hp} : But p H H := fun _ _ => rfl
theorem But.trans {p : Addr} {H H1 H2 : Hp} (a : But p H H1) (b : But p H1 H2) : But p H H2 := fun c h => (b c h).trans (a c h)
theorem But.upd {p : Addr} {H : Hp} {o : HO} : But p H (upd H p o) := fun _ h => upd_ne h
theorem strAt {z : Str} {k : Int} (h0 : 0 ≤ k) (h1 : k < (z.length : Int)) : ∃ c, atI z.cps.toList k = some c := by
  obtain ⟨j, rfl⟩ : ∃ j : Nat, k = (j : Int) := ⟨_, (Int.toNat_of_nonneg h0).symm⟩
  have hj : j < z.cps.toList.length := by rw [cps_len]; omega
  exact ⟨_, atI_nat (List.getElem?_eq_getElem hj)⟩
theorem listAt {xs : List V} {k : Int} (h0 : 0 ≤ k) (h1 : k < (xs.length : Int)) : ∃ v, atI xs k = some v ∧ v ∈ xs := by
  obtain ⟨j, rfl⟩ : ∃ j : Nat, k = (j : Int) := ⟨_, (Int.toNat_of_nonneg h0).symm⟩
  have hj : j < xs.length := by omega
  exact ⟨_, atI_nat (List.getElem?_eq_getElem hj), List.getElem_mem hj⟩
/-- what was tracked, but for the pen, is as it was -/
def Kp (p : Addr) (H H' : Hp) : Prop := ∀ b o, H b = some o → b ≠ p → H' b = some o
theorem Kp.refl {p : Addr} {H : Hp} : Kp p H H := fun _ _ h _ => h
theorem Kp.trans {p : Addr} {H H1 H2 : Hp} (a : Kp p H H1) (b : Kp p H1 H2) : Kp p H H2 := fun c o h n => b c o (a c o h n) n
theorem But.kp {p : Addr} {H H' : Hp} (a : But p H H') : Kp p H H' := fun b o h n => (a b n).trans h
theorem Kp.new {p D : Addr} {H : Hp} {o : HO} (h : H D = none) : Kp p H (upd H D o) := fun b u e _ => by rw [upd_ne (ne_of_none e h)]; exact e
theorem Pen.new {H : Hp} {p L D : Addr} {ns : List Int} {n : Nat} {o : HO} (h : Pen H p L ns n) (hD : H D = none) : Pen (upd H D o) p L ns n := by
  obtain ⟨a, r, h1, _⟩ := h.at_
  exact h.keep (upd_ne (ne_of_none h1 hD)) (upd_ne (ne_of_none h.ls hD))
theorem Pen.lt_new {H : Hp} {p L D : Addr} {ns : List Int} {n : Nat} (h : Pen H p L ns n) (hD : H D = none) : D ≠ p := by
  obtain ⟨a, r, h1, _⟩ := h.at_
  exact (ne_of_none h1 hD).symm
theorem cut63 {xs : List V} (h : xs.length ≤ 63) : cutV xs none (some 63) = xs := by
  unfold cutV
  rw [HT.sIx_none, show HT.sIx xs.length xs.length (some 63) = min 63 xs.length from HT.sIx_nat xs.length xs.length 63, Nat.min_eq_right h, Nat.sub_zero, List.drop_zero]
  exact List.take_length
theorem len_add (a b : Str) : (a ++ b).length = a.length + b.length := by
  show (a.cps ++ b.cps).size = _
  rw [Array.size_append] <;> rfl
theorem len_one (c : Nat) : (⟨#[c]⟩ : Str).length = 1 := rfl
theorem ones_sum : ∀ {ys : List Str}, (∀ y ∈ ys, y.length = 1) → (ys.map (·.length)).sum = ys.length
  | [], _ => rfl
  | y :: r, h => by
    have ih := ones_sum (ys := r) fun z hz => h z (List.mem_cons_of_mem _ hz)
    have h1 := h y List.mem_cons_self
    show (y.length :: r.map (·.length)).sum = r.length + 1
    rw [List.sum_cons, ih, h1]
    omega
theorem ones_join {ys : List Str} (h : ∀ y ∈ ys, y.length = 1) : (Txt.join ("" : Str) ys).length ≤ ys.length := by
  have h2 := StrLaws.join_length_le ("" : Str) ys
  rw [ones_sum h, show ("" : Str).length = 0 by decide +kernel, Nat.mul_zero, Nat.add_zero] at h2
  rw [show Txt.join ("" : Str) ys = Str.join ("" : Str) ys from StrLaws.glued_eq_join ("" : Str) ys]
  exact h2
theorem mul_len {z : Str} (h : z.length ≤ 20) : (Txt.mul z 2).length ≤ 40 := by
  unfold Txt.mul
  rw [if_neg (by decide)]
  split
  · omega
  · show ((List.replicate 2 z.cps).foldl (· ++ ·) #[]).size ≤ 40
    show ((#[] ++ z.cps) ++ z.cps).size ≤ 40
    rw [Array.size_append, Array.size_append]
    have h2 : z.cps.size ≤ 20 := h
    show 0 + z.cps.size + z.cps.size ≤ 40
    omega
/-- what was tracked, but for a table, is as it was -/
theorem Th.kt {H H' : Hp} {P' : Addr} {v : V} (h : Th H v) (g : TabG H P') (k : ∀ b o, H b = some o → b ≠ P' → H' b = some o) : Th H' v := by
  obtain ⟨ps, g, _⟩ := g
  cases h with
  | non => exact .non
  | bl b => exact .bl b
  | int i => exact .int i
  | str z => exact .str z
  | lst e => exact .lst (k _ _ e (ne_of e g (fun q => by cases q)))
  | tup e => exact .tup (k _ _ e (ne_of e g (fun q => by cases q)))
  | dK e => exact .dK (k _ _ e (ne_of e g (fun q => by cases q)))
theorem tabbedKt {P' : Addr} {H H' : Hp} (h : Tabbed P' H H') : ∀ b o, H b = some o → b ≠ P' → H' b = some o := fun b o e n => (h.2 b n).trans e
theorem Pen.kt {H H' : Hp} {p L P' : Addr} {ns : List Int} {n : Nat} (h : Pen H p L ns n) (g : TabG H P') (k : ∀ b o, H b = some o → b ≠ P' → H' b = some o) : Pen H' p L ns n := by
  obtain ⟨ps, g, _⟩ := g
  obtain ⟨⟨a, r, h1, h2, h3⟩, h4, h5⟩ := h
  exact ⟨⟨a, r, k _ _ h1 (ne_of h1 g (fun q => by cases q)), h2, h3⟩, k _ _ h4 (ne_of h4 g (fun q => by cases q)), h5⟩
theorem tabSame {P' : Addr} {H H' : Hp} (g : TabG H P') (k : Same H H') : TabG H' P' := by
  obtain ⟨ps, g, t⟩ := g
  exact ⟨ps, k _ _ g, t⟩
theorem tabKp {p P' : Addr} {H H' : Hp} {a : List V} (g : TabG H P') (hp : H p = some (.lst a)) (k : Kp p H H') : TabG H' P' := by
  obtain ⟨ps, g, t⟩ := g
  exact ⟨ps, k _ _ g (ne_of g hp (fun q => by cases q)), t⟩
theorem Pen.tab {H H' : Hp} {p L P' : Addr} {ns : List Int} {n : Nat} (h : Pen H p L ns n) (g : TabG H P') (k : Kp p H H') : TabG H' P' := by
  obtain ⟨a, r, h1, _⟩ := h.at_
  exact tabKp g h1 k
theorem same_new {D : Addr} {H : Hp} {o : HO} (h : H D = none) : Same H (upd H D o) := fun b u e => by rw [upd_ne (ne_of_none e h)]; exact e
theorem sameKp {p : Addr} {H H' : Hp} (h : Same H H') : Kp p H H' := fun b o e _ => h b o e
/-- a thing of known type, a text that is not too long -/
def Ok1 (H : Hp) (v : V) : Prop := Th H v ∧ ∀ z, v = .str z → z.length ≤ sizeLine
theorem Th.same {H H' : Hp} {v : V} (h : Th H v) (k : Same H H') : Th H' v := by
  cases h with
  | non => exact .non
  | bl b => exact .bl b
  | int i => exact .int i
  | str z => exact .str z
  | lst e => exact .lst (k _ _ e)
  | tup e => exact .tup (k _ _ e)
  | dK e => exact .dK (k _ _ e)
theorem ok_str {H : Hp} {z : Str} (h : z.length ≤ sizeLine) : Ok1 H (.str z) := ⟨.str z, fun _ e => by cases e; exact h⟩
theorem ok_ref {H : Hp} {a : Addr} (h : Th H (.ref a)) : Ok1 H (.ref a) := ⟨h, fun _ e => nomatch e⟩
def spDraw : Sp := fun vs H Q _ => ∃ (p L : Addr) (ns : List Int) (n : Nat) (many : Int), vs = [.ref p, .int many] ∧ Pen H p L ns n ∧ 0 < many ∧ many < 1000000 ∧ n < 1000000 ∧
  ∀ (k : Int) (H' : Hp), 0 ≤ k → k < many → Pen H' p L ns (n + 1) → But p H H' → Q (.int k) H'
end Gx

set_option Elab.async false
set_option linter.all false
set_option maxRecDepth 100000
set_option maxHeartbeats 2000000
/-! all(element for target in things): the element any expression, calls and generators in it too. -/
namespace Gq
open PySem PySem.Spec PyProof.Rows L2 GxR GenW

/-! ### the around of a running generator -/
/-- where the generator's code runs when all() asks it -/
abbrev B3 (A : Around) : Around := A.in1.in1
section
variable {A : Around} {elt iter tg : Expr} {scope : Scope} {pos : Pos} {it acc : Value} {ge : Env}
theorem over_frames {l : List Env} (h : A.frames = some l) : ((B3 A).over (.compLoop (.GeneratorExp elt [⟨tg, iter, [], 0⟩] scope pos) 0 it acc ge) []).frames = some (ge :: l) := by
  show pushEnvs (Code.envs (.compLoop (.GeneratorExp elt [⟨tg, iter, [], 0⟩] scope pos) 0 it acc ge)) (pushEnvs (envsOf []) A.frames) = _
  rw [h]
  rfl
theorem over_hd (h : A.handled = none) : ((B3 A).over (.compLoop (.GeneratorExp elt [⟨tg, iter, [], 0⟩] scope pos) 0 it acc ge) []).handled = none := h
theorem over_room {k : Nat} (h : Room (k + 1) A) : Room k ((B3 A).over (.compLoop (.GeneratorExp elt [⟨tg, iter, [], 0⟩] scope pos) 0 it acc ge) []) := by
  refine ⟨h.hd, ?_, ?_⟩
  · have := h.dp
    show A.depth + 0 + 1 + 3 * k + 5 < _
    omega
  · have := h.un
    show A.units + 1 + 1 + 0 + 3 + 16 * k + 200 < _
    omega
end

/-! ### the generator's context -/
abbrev gctx (X : Cx) (s : Shared) (H : Hp) (ge : Env) (A : Around) (fp : List Addr) : Cx :=
  { X with A := A, s_0 := s, H_0 := H, env := ge, outer := X.stack, stack := ge :: X.stack, ex := fp, fn := fun _ => false, pn := [], calm := true, xe := fun _ _ => False }
section
variable {X : Cx} {pins : List (Addr × Obj)} {σ : L2.St} {H : Hp} {s : Shared}
theorem gen_start {scope : Scope} {own : List (Str × Nat)} {fp : List Addr} {A : Around} {cd : Value} {h5 : Heap} {g5 : Array GenState} {t5 : Nat} {m5 : Str → Option Value}
    (I : L2.Inv X pins σ H s) (ok : BlkOk X.N X.env.scope scope own) (nocell : ∀ y ∈ scope.names, y.2 ≠ .cell) (hN : X.N.Nodup) (hfp : ∀ b ∈ fp, FpOk X pins H b ∧ b < s.heap.objs.size)
    (hA : A.handled = none) (hF : A.frames = some (genEnv scope (cloFrom X.env.cells scope.names []) s.heap.objs.size cd builtinsNs X.env :: X.stack))
    (kp : ∀ b o, s.heap.get? b = some o → h5.get? b = some o) (hns : h5.Ns s.heap.objs.size m5) (hg : AllBare g5) :
    L2.Inv (gctx X s H (genEnv scope (cloFrom X.env.cells scope.names []) s.heap.objs.size cd builtinsNs X.env) A fp) [] (wipe σ (own.map (·.2))) H { s with heap := h5, gens := g5, toks := t5 } := by
  have hfree : ∀ y ∈ scope.names, y.2 = .free → ∃ c, X.env.cells.lookup y.1 = some c := fun y hy e => by
    rcases ok.free y hy e with k | k
    · exact I.ok.has _ (.inl k)
    · exact I.ok.has _ (.inr k)
  have cm : ∀ {y c}, (y, c) ∈ cloFrom X.env.cells scope.names [] → X.env.cells.lookup y = some c ∧ c < s.heap.objs.size := fun {y c} hm => by
    rcases cloFrom_mem hm with hm | ⟨h1, rfl⟩
    · cases hm
    · obtain ⟨c, hc⟩ := hfree _ h1 rfl
      rw [hc]
      obtain ⟨w, z⟩ := I.cell _ _ hc
      exact ⟨rfl, z.lt⟩
  generalize hge : genEnv scope (cloFrom X.env.cells scope.names []) s.heap.objs.size cd builtinsNs X.env = ge at hF ⊢
  have hL : ge.locals = s.heap.objs.size := by rw [← hge] <;> rfl
  have hcl : ge.cells = cloFrom X.env.cells scope.names [] := by rw [← hge] <;> rfl
  have hsc : ge.scope = scope := by rw [← hge] <;> rfl
  have mem : ∀ {y c}, ge.cells.lookup y = some c → X.env.cells.lookup y = some c ∧ c < s.heap.objs.size := fun {y c} e => cm (by rw [hcl] at e; exact PySem.mem_of_lookup e)
  have look : ∀ {y}, scope.names.lookup y = some .free → ∃ c, ge.cells.lookup y = some c := fun {y} hl => by
    rw [hcl]
    exact L2.mem_lookup (cloFrom_has (cells := X.env.cells) (acc := []) (PySem.mem_of_lookup hl))
  have okG : (gctx X s H ge A fp).Ok := by
    refine ⟨I.ok.mod, by show ge.scope.kind = _; rw [hsc]; exact ok.kind, by show ge.globals = _; rw [← hge]; exact I.ok.glob, by show ge.builtins = _; rw [← hge] <;> rfl, by show s.heap.objs.size ≤ ge.locals; rw [hL]; exact Nat.le_refl _,
      fun y z c e1 e2 => I.ok.inj y z c (mem e1).1 (mem e2).1, fun y hy => ?_, fun y c z _ => absurd (show false = true from z) Bool.false_ne_true, fun _ => hA, hF, .inr ⟨rfl, by show ge.frame = some ge.locals; rw [← hge] <;> rfl⟩, fun b hb => ⟨?_, fun y c e z => ?_⟩, I.bs, Nat.le_trans I.ok.bsz I.sz, fun b o e hb => ?_, fun b hb z => ?_, I.stack, I.stkFree⟩
    · show ∃ c, ge.cells.lookup y = some c
      have hy : scope.names.lookup y = some .cell ∨ scope.names.lookup y = some .free := by
        have z : ge.scope.names.lookup y = some .cell ∨ ge.scope.names.lookup y = some .free := hy
        rw [hsc] at z
        exact z
      rcases hy with hy | hy
      · exact absurd rfl (nocell _ (PySem.mem_of_lookup hy))
      · exact look hy
    · show b ≠ ge.locals
      rw [hL]
      exact Nat.ne_of_lt (hfp b hb).2
    · exact (hfp b hb).1.2.2.2.2.1 y c (mem (show ge.cells.lookup y = some c from e)).1 z
    · rcases (hfp b hb).1.2.2.2.1 with z | z
      · exact I.ok.noex b o e z
      · exact absurd (Nat.lt_of_lt_of_le (Heap.lt_size e) (Nat.le_trans I.ok.bsz z)) (Nat.lt_irrefl _)
    · rcases List.mem_cons.mp (I.stkSub b z) with z | z
      · exact (hfp b hb).1.2.1 z
      · exact (hfp b hb).1.2.2.1 z
  refine ⟨okG, rfl, hg, Un.kept kp, ⟨m5, by show h5.Ns ge.locals m5; rw [hL]; exact hns, fun i y av e1 e2 e3 => ?_⟩, fun y c e => ?_, ?_, fun y c e => ?_, fun p hp => ?_, I.hok.kept kp, by rw [wipe_length]; exact I.len⟩
  · obtain ⟨e2, hne⟩ := wipe_some e2
    have e3 : Vis ge.scope y := e3
    rw [hsc] at e3
    have no : ¬ (scope.names.lookup y = some .local) := fun hh => by
      rcases ok.own _ (PySem.mem_of_lookup hh) (.inl rfl) with e' | e'
      · obtain ⟨p, hp, hpy⟩ := List.mem_map.mp e'
        have e4 := ok.ix p hp
        have hpy : p.1 = y := hpy
        rw [hpy] at e4
        exact hne (List.mem_map.mpr ⟨p, hp, nodup_ix hN e4 e1⟩)
      · exact e' (List.mem_of_getElem? e1)
    have hfr : scope.names.lookup y = some .free := by
      rcases e3 with e3 | e3 | e3
      · exact absurd e3 no
      · exact absurd rfl (nocell _ (PySem.mem_of_lookup e3))
      · exact e3
    obtain ⟨m, hn, hl⟩ := I.loc
    have hvis : Vis X.env.scope y := (ok.free _ (PySem.mem_of_lookup hfr) rfl).elim (fun k => .inr (.inl k)) (fun k => .inr (.inr k))
    obtain ⟨w, r, q⟩ := hl i y av e1 e2 hvis
    obtain ⟨c, h1⟩ := look hfr
    refine ⟨w, r, .inr ⟨.inr (by show ge.scope.names.lookup y = _; rw [hsc]; exact hfr), c, h1, ?_⟩⟩
    rcases q with ⟨k, _⟩ | ⟨_, c', e', z⟩
    · have k : X.env.scope.names.lookup y = some .local := k
      rcases ok.free _ (PySem.mem_of_lookup hfr) rfl with k' | k' <;> rw [show X.env.scope.names.lookup y = _ from k'] at k <;> cases k
    · have h2 := (mem h1).1
      rw [h2] at e'
      cases e'
      exact z.keeps kp
  · obtain ⟨w, z⟩ := I.cell y c (mem (show ge.cells.lookup y = some c from e)).1
    exact ⟨w, z.keeps kp⟩
  · show H ge.locals = none
    rw [hL]
    exact I.hok.fresh (Nat.le_refl _)
  · exact I.freeC y c (mem (show ge.cells.lookup y = some c from e)).1
  · exact absurd (show p ∈ ([] : List (Addr × Obj)) ++ [] from hp) (by simp)
end

/-- asleep between two items: the heap stands -/
def Awake (s s' : Shared) : Prop := s'.os = s.os ∧ AllBare s'.gens ∧ ∀ b o, s.heap.get? b = some o → s'.heap.get? b = some o
theorem awake {X : Cx} {pins : List (Addr × Obj)} {σ : L2.St} {H : Hp} {s s' : Shared} (I : L2.Inv X pins σ H s) (w : Awake s s') : L2.Inv X pins σ H s' := by
  obtain ⟨hp, g, d, t, os⟩ := s'
  obtain ⟨w1, w2, w3⟩ := w
  have w1 : os = s.os := w1
  subst w1
  refine I.step (h' := hp) (g' := g) (t' := t) (d' := d) (ch := []) (fun b hb => absurd hb (by simp)) (fun b o _ _ _ e _ => w3 b o e) (fun b o _ _ _ e _ => ⟨o.slots, w3 b o e⟩)
    (fun _ _ _ _ n => n) (fun b o _ e => ⟨o, w3 b o e⟩) (fun _ _ e => e) (fun _ _ _ e => e) (fun b ps e => ⟨#[], by rw [e]; simp⟩) (fun m hm => hm.keeps w3) (I.hok.kept w3) w2

/-- what an item's handing out means: go: the truth at which one goes on; else Qs -/
def GYp (X : Cx) (pins : List (Addr × Obj)) (σ : L2.St) (go : Bool) (Qs : Hp → Prop) (a : Addr) (g : Nat) : Protocol := fun n s₀ v s kap =>
  ∃ b : Bool, v = .bool b ∧ s.heap.IsGen a g ∧ s.heap.NoLimit ∧ AllBare s.gens ∧ (b = go → ∀ s', Awake s s' → kap (.send .none) s') ∧ (b ≠ go → ∃ H', L2.Inv X pins σ H' s ∧ Qs H')
/-- the end of the things -/
def GRp (X : Cx) (pins : List (Addr × Obj)) (σ : L2.St) (Qe : Hp → Prop) : Shared → Prop := fun s => ∃ H', L2.Inv X pins σ H' s ∧ Qe H'

def GEp (X : Cx) (pins : List (Addr × Obj)) (σ : L2.St) (Qe : Hp → Prop) : GenEnd := fun n s₀ r s₁ => ((r = .ok (.ret .none) ∨ r = .ok .next) ∧ GRp X pins σ Qe s₁) ∨ ∃ e, r = .error e ∧ False
theorem Awake.refl' {s : Shared} (h : AllBare s.gens) : Awake s s := ⟨rfl, h, fun _ _ e => e⟩
theorem rest_gen {X : Cx} {pins : List (Addr × Obj)} {σ : L2.St} {Q : Hp → Prop} {s s' : Shared} (h : GRp X pins σ Q s) (w : Awake s s') : GRp X pins σ Q s' := by
  obtain ⟨H, I, q⟩ := h
  exact ⟨H, awake I w, q⟩
section
variable {X : Cx} {pins : List (Addr × Obj)} {σ : L2.St} {a : Addr} {g : Nat} {A : Around} {Qs Qe : Hp → Prop} {R : Result → Shared → Prop}
/-- all() asks on -/
theorem all_loopQ (hh : A.handled = none) (hd : A.depth < recursionLimit) (hend : ∀ s', GRp X pins σ Qe s' → R (.ok (.ret (.bool true))) s') (hstop : ∀ s', GRp X pins σ Qs s' → R (.ok (.ret (.bool false))) s') :
    ∀ (n : Nat) (s : Shared) (gs : GenState), s.heap.IsGen a g → s.heap.NoLimit → s.gens[g]? = some gs → gs.Goes (model X.prog X.w) A.in1.in1 (GEp X pins σ Qe) (GYp X pins σ true Qs a g) n (.send .none) (s.setGen g .running) →
      codeAny (model X.prog X.w) A (.builtin "all.loop" ⟨[.ref a], []⟩) R s := by
  intro n
  induction n with
  | zero =>
    intro s gs hg hl hgs hgo
    refine codeAny_builtin F.entry_all_loop ?_
    rw [Around.under_plainId F.plain_all_loop _]
    show wpAny _ A.in1 (pyNext (.ref a) >>= _) _ _ s
    refine wpAny_bind (next_genG (Er := fun _ _ => False) (A := A.in1) hh hl hd hg hgs hgo (fun v s₁ gs' hb hv => ?_) (fun s₁ hp h' hk => ?_) fun e s₁ he => he.elim)
    · obtain ⟨b, rfl, hg1, hl1, hb1, hgo1, hst⟩ := hv
      refine wpAny_bind (wpAny_holding (wpAny_truthy_bool ?_))
      refine wpAny_bind (wpAny_letGo ?_)
      cases b with
      | true => exact (hgo1 rfl s₁ (Awake.refl' hb1)).elim
      | false =>
        simp only [Bool.false_eq_true, if_false]
        exact wpAny_bind (wpAny_rule (wpAny_pure (hstop _ (rest_gen (hst (by decide)) ⟨rfl, allBare_setGen hb1 hb, fun _ _ e => e⟩))))
    · refine wpAny_bind (wpAny_rule (wpAny_pure ?_))
      obtain ⟨H', I', q⟩ := hp
      exact hend _ ⟨H', awake I' ⟨rfl, allBare_setGen I'.bare rfl, hk⟩, q⟩
  | succ n ih =>
    intro s gs hg hl hgs hgo
    have hgl : g < s.gens.size := (Array.getElem?_eq_some_iff.mp hgs).1
    refine codeAny_builtin F.entry_all_loop ?_
    rw [Around.under_plainId F.plain_all_loop _]
    show wpAny _ A.in1 (pyNext (.ref a) >>= _) _ _ s
    refine wpAny_bind (wpAny_gsz (n := g + 1) hgl (next_genG (Er := fun _ _ => False) (A := A.in1) hh hl hd hg hgs hgo (fun v s₁ gs' hb hv => ?_) (fun s₁ hp h' hk => ?_) fun e s₁ he => he.elim))
    · intro hsz
      obtain ⟨b, rfl, hg1, hl1, hb1, hgo1, hst⟩ := hv
      refine wpAny_bind (wpAny_holding (wpAny_truthy_bool ?_))
      refine wpAny_bind (wpAny_letGo ?_)
      cases b with
      | true =>
        simp only [if_true]
        have hsz1 : g < s₁.gens.size := by
          have z : (s₁.setGen g gs').gens.size = s₁.gens.size := setGen_size _ _ _
          rw [z] at hsz
          omega
        refine wpAny_pure ⟨plainId_quiet F.plain_all_loop _, ih _ gs' hg1 hl1 (setGen_at hsz1) ?_⟩
        exact hgo1 rfl _ ⟨rfl, allBare_setGen (allBare_setGen hb1 hb) rfl, fun _ _ e => e⟩
      | false =>
        simp only [Bool.false_eq_true, if_false]
        exact wpAny_bind (wpAny_rule (wpAny_pure (hstop _ (rest_gen (hst (by decide)) ⟨rfl, allBare_setGen hb1 hb, fun _ _ e => e⟩))))
    · intro _
      refine wpAny_bind (wpAny_rule (wpAny_pure ?_))
      obtain ⟨H', I', q⟩ := hp
      exact hend _ ⟨H', awake I' ⟨rfl, allBare_setGen I'.bare rfl, hk⟩, q⟩
/-- any() asks on -/
theorem any_loopQ (hh : A.handled = none) (hd : A.depth < recursionLimit) (hend : ∀ s', GRp X pins σ Qe s' → R (.ok (.ret (.bool false))) s') (hstop : ∀ s', GRp X pins σ Qs s' → R (.ok (.ret (.bool true))) s') :
    ∀ (n : Nat) (s : Shared) (gs : GenState), s.heap.IsGen a g → s.heap.NoLimit → s.gens[g]? = some gs → gs.Goes (model X.prog X.w) A.in1.in1 (GEp X pins σ Qe) (GYp X pins σ false Qs a g) n (.send .none) (s.setGen g .running) →
      codeAny (model X.prog X.w) A (.builtin "any.loop" ⟨[.ref a], []⟩) R s := by
  intro n
  induction n with
  | zero =>
    intro s gs hg hl hgs hgo
    refine codeAny_builtin F.entry_any_loop ?_
    rw [Around.under_plainId F.plain_any_loop _]
    show wpAny _ A.in1 (pyNext (.ref a) >>= _) _ _ s
    refine wpAny_bind (next_genG (Er := fun _ _ => False) (A := A.in1) hh hl hd hg hgs hgo (fun v s₁ gs' hb hv => ?_) (fun s₁ hp h' hk => ?_) fun e s₁ he => he.elim)
    · obtain ⟨b, rfl, hg1, hl1, hb1, hgo1, hst⟩ := hv
      refine wpAny_bind (wpAny_holding (wpAny_truthy_bool ?_))
      refine wpAny_bind (wpAny_letGo ?_)
      cases b with
      | false => exact (hgo1 rfl s₁ (Awake.refl' hb1)).elim
      | true =>
        simp only [if_true]
        exact wpAny_bind (wpAny_rule (wpAny_pure (hstop _ (rest_gen (hst (by decide)) ⟨rfl, allBare_setGen hb1 hb, fun _ _ e => e⟩))))
    · refine wpAny_bind (wpAny_rule (wpAny_pure ?_))
      obtain ⟨H', I', q⟩ := hp
      exact hend _ ⟨H', awake I' ⟨rfl, allBare_setGen I'.bare rfl, hk⟩, q⟩
  | succ n ih =>
    intro s gs hg hl hgs hgo
    have hgl : g < s.gens.size := (Array.getElem?_eq_some_iff.mp hgs).1
    refine codeAny_builtin F.entry_any_loop ?_
    rw [Around.under_plainId F.plain_any_loop _]
    show wpAny _ A.in1 (pyNext (.ref a) >>= _) _ _ s
    refine wpAny_bind (wpAny_gsz (n := g + 1) hgl (next_genG (Er := fun _ _ => False) (A := A.in1) hh hl hd hg hgs hgo (fun v s₁ gs' hb hv => ?_) (fun s₁ hp h' hk => ?_) fun e s₁ he => he.elim))
    · intro hsz
      obtain ⟨b, rfl, hg1, hl1, hb1, hgo1, hst⟩ := hv
      refine wpAny_bind (wpAny_holding (wpAny_truthy_bool ?_))
      refine wpAny_bind (wpAny_letGo ?_)
      cases b with
      | false =>
        simp only [Bool.false_eq_true, if_false]
        have hsz1 : g < s₁.gens.size := by
          have z : (s₁.setGen g gs').gens.size = s₁.gens.size := setGen_size _ _ _
          rw [z] at hsz
          omega
        refine wpAny_pure ⟨plainId_quiet F.plain_any_loop _, ih _ gs' hg1 hl1 (setGen_at hsz1) ?_⟩
        exact hgo1 rfl _ ⟨rfl, allBare_setGen (allBare_setGen hb1 hb) rfl, fun _ _ e => e⟩
      | true =>
        simp only [if_true]
        exact wpAny_bind (wpAny_rule (wpAny_pure (hstop _ (rest_gen (hst (by decide)) ⟨rfl, allBare_setGen hb1 hb, fun _ _ e => e⟩))))
    · intro _
      refine wpAny_bind (wpAny_rule (wpAny_pure ?_))
      obtain ⟨H', I', q⟩ := hp
      exact hend _ ⟨H', awake I' ⟨rfl, allBare_setGen I'.bare rfl, hk⟩, q⟩
end

section
variable {X : Cx} {pins : List (Addr × Obj)} {σ : L2.St} {H3 : Hp} {s3 : Shared}
theorem gen_loop {elt iter tg : Expr} {scope : Scope} {own : List (Str × Nat)} {gpos : Pos} {fp : List Addr} {A : Around} {J : It} {it a : Addr} {oa : Obj} {g : Nat} {tn : Nat → Heap → Prop} {go : Bool} {Qs Qe : Hp → Prop} {gT : TG} {te : TE} {W : Nat → Nat → Hp → Prop} {ge : Env} {XG : Cx}
    (I3 : L2.Inv X pins σ H3 s3) (f3 : ∀ b ∈ fp, FpOk X pins H3 b ∧ b < s3.heap.objs.size) (hco : scope.isCoroutine = false) (egs : ge.scope = scope)
    (eXG : XG = gctx X s3 H3 ge (A.over (.compLoop (.GeneratorExp elt [⟨tg, iter, [], 0⟩] scope gpos) 0 (.ref it) .none ge) []) fp)
    (ga : s3.heap.objs.size ≤ a) (isg : ∀ h : Heap, h.get? a = some oa → h.IsGen a g) (T : Turn X.prog X.w X.K tg J fp it tn)
    (pg : PG XG tg gT) (pe : PE XG elt te)
    (turn : ∀ i m H, W i m H → (J.stop i H ∧ Qe H) ∨ (J.go i H ∧ ∃ Nx : Hp → Prop, (∀ H', Nx H' → ∃ m', m' < m ∧ W (i + 1) m' H') ∧ ∀ x H', J.yld i H x H' → gT x (wipe σ (own.map (·.2))) H' fun σ2 H2 => wipe σ2 (own.map (·.2)) = wipe σ (own.map (·.2)) ∧
      te σ2 H2 fun y H3 => ∃ b : Bool, y = .bl b ∧ (b = go → Nx H3) ∧ (b ≠ go → Qs H3))) :
    ∀ (m n i : Nat) (s₀ s : Shared) (H : Hp), m < n → L2.Inv XG [(a, oa)] (wipe σ (own.map (·.2))) H s → tn i s.heap → (∀ b ∈ fp, H b = none) → W i m H →
      Seg (model X.prog X.w) A (GEp X pins σ Qe) (GYp X pins σ go Qs a g) n s₀ (.compLoop (.GeneratorExp elt [⟨tg, iter, [], 0⟩] scope gpos) 0 (.ref it) .none ge)
        ((model X.prog X.w).den (.compLoop (.GeneratorExp elt [⟨tg, iter, [], 0⟩] scope gpos) 0 (.ref it) .none ge)) [] s := by
  subst eXG
  -- back in the def
  have back : ∀ {pn : List (Addr × Obj)} {σ' : L2.St} {H' : Hp} {s' : Shared}, L2.Inv (gctx X s3 H3 ge (A.over (.compLoop (.GeneratorExp elt [⟨tg, iter, [], 0⟩] scope gpos) 0 (.ref it) .none ge) []) fp) pn σ' H' s' → L2.Inv X pins σ H' s' := fun I6 =>
    I3.call' (ch := fp) I6.os I6.base I6.hok I6.bare fun b hb => ⟨(f3 b hb).1.2.2.2.1, (f3 b hb).1.2.1, (f3 b hb).1.2.2.2.2.1, (f3 b hb).1.2.2.2.2.2⟩
  have nfa : ∀ b ∈ fp, a ≠ b := fun b hb z => by
    have lt := (f3 b hb).2
    rw [← z] at lt
    exact absurd (Nat.lt_of_lt_of_le lt ga) (Nat.lt_irrefl _)
  have stat : ∀ {σ' : L2.St} {H' : Hp} {s' : Shared}, L2.Inv (gctx X s3 H3 ge (A.over (.compLoop (.GeneratorExp elt [⟨tg, iter, [], 0⟩] scope gpos) 0 (.ref it) .none ge) []) fp) [(a, oa)] σ' H' s' → (∀ b ∈ fp, H' b = none) →
      ∀ b ∈ fp, FpOk (gctx X s3 H3 ge (A.over (.compLoop (.GeneratorExp elt [⟨tg, iter, [], 0⟩] scope gpos) 0 (.ref it) .none ge) []) fp) [(a, oa)] H' b := fun {σ' H' s'} I' hn b hb =>
    ⟨hn b hb, (I'.ok.exf b hb).1, I'.ok.exfs b hb, .inl hb, fun x c e => (I'.ok.exf b hb).2 x c e, fun p hp => by
      have e : p = (a, oa) := List.mem_singleton.mp (show p ∈ [(a, oa)] from hp)
      rw [e]
      exact nfa b hb⟩
  intro m
  induction m using Nat.strongRecOn with
  | ind m ih =>
    intro n i s₀ s H hmn I st nf w
    show Seg _ A _ _ _ s₀ _ ((compTurn (.GeneratorExp elt [⟨tg, iter, [], 0⟩] scope gpos) 0 (.ref it) .none ge).onRaise (leaving ge)) [] s
    rw [compTurn_gen, Sem.onRaise_eq_wrap]
    refine seg_bind_wrap (wpAny_standAt ?_)
    rcases turn i m H w with ⟨stop, q⟩ | ⟨goes, Nx, hNx, step⟩
    · refine seg_bind_wrap (thnF (T.done (gctx X s3 H3 ge (A.over (.compLoop (.GeneratorExp elt [⟨tg, iter, [], 0⟩] scope gpos) 0 (.ref it) .none ge) []) fp) rfl rfl rfl rfl i _ s _ H (fun _ _ => False) I (stat I nf) st stop) fun r s6 ⟨hr, I6⟩ => ?_)
      subst hr
      exact seg_end (.ok .next) (.inl ⟨.inr rfl, H, back I6, q⟩)
    · refine seg_bind_wrap (thnF (T.item (gctx X s3 H3 ge (A.over (.compLoop (.GeneratorExp elt [⟨tg, iter, [], 0⟩] scope gpos) 0 (.ref it) .none ge) []) fp) rfl rfl rfl rfl i _ s _ H (fun _ _ => False) I (stat I nf) st goes) fun r s6 ⟨u, hr, h6⟩ => ?_)
      subst hr
      refine seg_bind_wrap (thnF h6 fun _ s7 ⟨x, H7, I7, r7, y7, st7, n7⟩ => ?_)
      have I7' := I7.pinned (stat I7 n7) (T.obj _ _ st7)
      refine seg_bind_wrap (thnF (pg.run _ s7 _ H7 x u _ I7' r7 (step x H7 y7)) fun _ s8 ⟨σ8, H8, I8, hw8, q8⟩ => ?_)
      refine seg_bind_wrap (by
        simp only [List.forIn_nil]
        refine wpAny_pure ?_
        have hco' : ge.scope.isCoroutine = false := by rw [egs]; exact hco
        have hy : ∀ v, yieldOut ge v = yieldValue v := fun v => by simp only [yieldOut, hco', Bool.false_eq_true, if_false]
        simp only [if_true, hy]
        rw [Sem.bind_eq_wrap', Sem.bind_eq_wrap', Sem.wrap_wrap, Sem.wrap_wrap]
        refine seg_wrap (thnF (pe.run _ s8 σ8 H8 _ I8 q8) fun z s9 ⟨yv, H9, I9, r9, b, eb, qgo, qno⟩ => ?_)
        subst eb
        cases r9
        obtain ⟨n', rfl⟩ : ∃ n', n = n' + 1 := ⟨n - 1, by omega⟩
        have pin' : ∀ b ∈ fp, ∀ o, s7.heap.get? b = some o → s9.heap.get? b = some o ∧ H9 b = none := fun b hb o e =>
          let z := I9.pin (b, o) (List.mem_append_right _ (List.mem_append_right _ (mem_pinsAt hb e)))
          ⟨z.1, z.2.1⟩
        have ea : s9.heap.get? a = some oa := (I9.pin (a, oa) (List.mem_append_right _ (List.mem_append_left _ (List.mem_singleton.mpr rfl)))).1
        refine seg_at (seg_yield rfl rfl rfl ⟨b, rfl, isg _ ea, I9.nolimit, I9.bare, fun e s'' aw => ?_, fun e => ⟨H9, back I9, qno e⟩⟩)
        obtain ⟨m', hm, w'⟩ := hNx H9 (qgo e)
        have hl : (wipe σ (own.map (·.2))).length = σ8.length := by rw [← hw8, wipe_length]
        have If := awake (((I9.unpinned (pins := [(a, oa)])).weak hl (fun j v e => by
          rw [← hw8] at e
          exact (wipe_some e).1))) aw
        refine seg_again rfl (ih m' hm n' (i + 1) s'' s'' H9 (by omega) If (T.keep _ _ _ st7 fun b hb o e => aw.2.2 b o (pin' b hb o e).1) (fun b hb => ?_) w')
        obtain ⟨o, e, _⟩ := T.obj _ _ st7 b hb
        exact (pin' b hb o e).2)
end

/-! ### the rules -/
/-- all(element for target in things) (go := true), any(..) (go := false); P: the table of the def's code object -/
def tQuant (go : Bool) (P : Addr) (wi : TI) (gT : TG) (te : TE) (vs : List Nat) : TE := fun σ H Q => wi σ H fun J H1 => TabG H1 P ∧ ∀ H2, Tabbed P H1 H2 → ∃ W : Nat → Nat → Hp → Prop, (∃ m, W 0 m H2) ∧ ∀ i m H, W i m H →
  (J.stop i H ∧ Q (.bl go) H) ∨ (J.go i H ∧ ∃ Nx : Hp → Prop, (∀ H', Nx H' → ∃ m', m' < m ∧ W (i + 1) m' H') ∧ ∀ x H', J.yld i H x H' → gT x (wipe σ vs) H' fun σ2 H2 => wipe σ2 vs = wipe σ vs ∧
    te σ2 H2 fun y H3 => ∃ b : Bool, y = .bl b ∧ (b = go → Nx H3) ∧ (b ≠ go → Q (.bl (!go)) H3))
/-- a generator that is ready to be asked -/
def ReadyQ (X : Cx) (pins : List (Addr × Obj)) (σ : L2.St) (go : Bool) (Qs Qe : Hp → Prop) (a : Addr) (s : Shared) : Prop :=
  ∃ (g n : Nat) (gs : GenState), s.heap.IsGen a g ∧ s.heap.NoLimit ∧ s.gens[g]? = some gs ∧ gs.Goes (model X.prog X.w) (B3 X.A) (GEp X pins σ Qe) (GYp X pins σ go Qs a g) n (.send .none) (s.setGen g .running)
section
variable {X : Cx} {pins : List (Addr × Obj)} {σ : L2.St} {H : Hp} {s : Shared}
theorem gen_Q {c P : Addr} {elt iter tg : Expr} {gpos : Pos} {scope : Scope} {own : List (Str × Nat)} {wi : TI} {gT : TG} {te : TE} {k : Nat} {go : Bool} {Qb : VK} {U : Value → Shared → Prop}
    (room : Room (k + 1) X.A) (hN : X.N.Nodup) (tb : TabB X.base X.mg c P) (code : X.env.code = .ref c) (ok : BlkOk X.N X.env.scope scope own) (nocell : ∀ y ∈ scope.names, y.2 ≠ .cell) (hco : scope.isCoroutine = false) (hdot : scope.names.lookup (".0" : Str) = some NameKind.local) (hi : PI X tg iter wi)
    (pg : ∀ (s : Shared) (H : Hp) (C : Addr) (cl : List (Str × Addr)) (cd : Value) (A : Around) (fp : List Addr), PG (gctx X s H (genEnv scope cl C cd builtinsNs X.env) A fp) tg gT)
    (pe : ∀ (s : Shared) (H : Hp) (C : Addr) (cl : List (Str × Addr)) (cd : Value) (A : Around) (fp : List Addr), Room k A → PE (gctx X s H (genEnv scope cl C cd builtinsNs X.env) A fp) elt te)
    (fold : ∀ v, genFold iter X.env v = pure v) (I : L2.Inv X pins σ H s) (h : tQuant go P wi gT te (own.map (·.2)) σ H Qb)
    (fin : ∀ a s', ReadyQ X pins σ go (Qb (.bl (!go))) (Qb (.bl go)) a s' → U (.ref a) s') :
    wpAny (model X.prog X.w) X.A (eval (.GeneratorExp elt [⟨tg, iter, [], 0⟩] scope gpos) X.env) U X.xe s := by
  have hfree : ∀ y ∈ scope.names, y.2 = .free → ∃ c, X.env.cells.lookup y.1 = some c := fun y hy e => by
    rcases ok.free y hy e with k | k
    · exact I.ok.has _ (.inl k)
    · exact I.ok.has _ (.inr k)
  refine wpAny_GeneratorExp_make hco (closure_ok hfree) nocell hdot ok.kind (by have := room.dp; omega) ?_ fold
  refine thn (hi.run pins s σ H _ I h) fun xv s1 hx => thn hx fun itv s2 hh2 => ?_
  obtain ⟨it, fp, tn, J, H2, e, I2, T, st2, f2, ⟨ps, tP, trip⟩, q⟩ := hh2
  subst e
  have atP : s2.heap.get? P = some { cls := .none, data := .fields ps } := I2.hok P _ tP
  have head := tb.code.keeps (h' := s2.heap) I2.bk
  have nfP : ∀ b ∈ fp, b ≠ P := fun b hb e => by
    have n := (f2 b hb).1
    rw [e, tP] at n
    cases n
  refine ⟨I2.nolimit, ?_⟩
  have after : ∀ (cd : Value) (h3 : Heap) (tk : Nat) (more : Array Value), Heap.ExtBut P s2.heap h3 → h3.get? P = some { cls := .none, data := .fields (ps ++ more) } → TriplesOk (ps ++ more).toList →
      wpAny (model X.prog X.w) X.A (builtinsFor X.env.globals X.env.builtins) (fun bi s₄ =>
        ∀ h', h'.Ns s₄.heap.objs.size (fun y => if y = ".0" then some (.ref it) else none) → Heap.SameBut s₄.heap.objs.size (s₄.heap.push { cls := .type "frame", data := .dict #[] }) h' →
          U (.ref h'.objs.size) { s₄ with
            gens := s₄.gens.push (.fresh (.compStart (.GeneratorExp elt [⟨tg, iter, [], 0⟩] scope gpos) 0 (.ref it) .none (genEnv scope (cloFrom X.env.cells scope.names []) s₄.heap.objs.size cd bi X.env))),
            toks := s₄.toks + 1 + 1 + 1,
            heap := h'.push { cls := .type "generator", data := .fields #[.int s₄.gens.size 0, .str "<genexpr>" (s₄.toks + 1), .str (X.env.qual ++ "<genexpr>") (s₄.toks + 1 + 1)] } }) X.xe { s2 with heap := h3, toks := tk } := by
    intro cd h3 tk more ext atP3 trip3
    obtain ⟨bm, ob, e1, e2, e3, e4, e5, e6, e7, e8⟩ := tb.bm
    have kept : ∀ b u, b ≠ P → s2.heap.get? b = some u → h3.get? b = some u := fun b u hb e => ext b u hb e
    have glob3 : h3.Ns X.env.globals X.mg := by
      rw [I2.ok.glob]
      exact (I2.mod.glob.keeps I2.bk).extBut ext tb.gP
    refine wpAny_builtinsFor (m := X.mg) glob3 e1 e2 (kept _ _ e4 (I2.bk _ _ e5)) e6 e7 e8 ?_
    have I3 := inv_tab (more := more) (h' := h3) (g' := s2.gens) (d' := s2.drawn) (t' := tk) I2 tP kept atP3 I2.bare
    intro h' hns hsb
    obtain ⟨W, ⟨m0, w0⟩, turn⟩ := q (upd H2 P (.tbl (ps ++ more))) ⟨⟨_, upd_same, trip3⟩, fun b hb => upd_ne hb⟩
    generalize eH3 : upd H2 P (.tbl (ps ++ more)) = H3 at I3 w0
    generalize es3 : ({ s2 with heap := h3, gens := s2.gens, drawn := s2.drawn, toks := tk } : Shared) = s3 at I3
    have s3h : s3.heap = h3 := by rw [← es3]
    have s3g : s3.gens = s2.gens := by rw [← es3]
    have es3' : ({ s2 with heap := h3, toks := tk } : Shared) = s3 := es3
    try rw [es3'] at hns
    try rw [es3'] at hsb
    try rw [es3']
    have n3 : ∀ b, b ≠ P → H2 b = none → H3 b = none := fun b hb e => by rw [← eH3, upd_ne hb]; exact e
    have f3 : ∀ b ∈ fp, FpOk X pins H3 b ∧ b < s3.heap.objs.size := fun b hb => by
      obtain ⟨o, eo, _⟩ := T.obj _ _ st2 b hb
      have lt : b < s3.heap.objs.size := by
        rw [s3h]
        exact Heap.lt_size (kept b o (nfP b hb) eo)
      exact ⟨⟨n3 b (nfP b hb) (f2 b hb).1, (f2 b hb).2⟩, lt⟩
    have st3 : tn 0 s3.heap := T.keep _ _ _ st2 fun b hb o e => by rw [s3h]; exact kept b o (nfP b hb) e
    have sz' : h'.objs.size = s3.heap.objs.size + 1 := by rw [hsb.1, Heap.size_push]
    have kp' : ∀ b o, s3.heap.get? b = some o → h'.get? b = some o := fun b o e => by
      rw [hsb.2 b (Nat.ne_of_lt (Heap.lt_size e))]
      exact Heap.get?_push_of_some _ e
    generalize eoa : ({ cls := .type "generator", data := .fields #[.int s3.gens.size 0, .str "<genexpr>" (s3.toks + 1), .str (X.env.qual ++ "<genexpr>") (s3.toks + 1 + 1)] } : Obj) = oa
    have isg : ∀ hp : Heap, hp.get? h'.objs.size = some oa → hp.IsGen h'.objs.size s3.gens.size := fun hp e => ⟨oa, _, _, e, by rw [← eoa], by rw [← eoa], by rw [← eoa]⟩
    have kp5 : ∀ b o, s3.heap.get? b = some o → (h'.push oa).get? b = some o := fun b o e => Heap.get?_push_of_some _ (kp' b o e)
    have ea5 : (h'.push oa).get? h'.objs.size = some oa := Heap.get?_push_size _ (by rw [← eoa] <;> rfl)
    have hns5 : (h'.push oa).Ns s3.heap.objs.size (fun y => if y = ".0" then some (.ref it) else none) := hns.push oa
    generalize ecl : cloFrom X.env.cells scope.names [] = cl
    have room3 : Room k ((B3 X.A).over (.compLoop (.GeneratorExp elt [⟨tg, iter, [], 0⟩] scope gpos) 0 (.ref it) .none (genEnv scope cl s3.heap.objs.size cd builtinsNs X.env)) []) := over_room room
    have start := fun (g5 : Array GenState) (t5 : Nat) (hg : AllBare g5) => gen_start (A := (B3 X.A).over (.compLoop (.GeneratorExp elt [⟨tg, iter, [], 0⟩] scope gpos) 0 (.ref it) .none (genEnv scope cl s3.heap.objs.size cd builtinsNs X.env)) []) (cd := cd) (h5 := h'.push oa) (g5 := g5) (t5 := t5) I3 ok nocell hN f3
      (over_hd room.hd) (by rw [ecl]; exact over_frames I3.ok.frames) kp5 hns5 hg
    rw [ecl] at start
    refine fin _ _ ⟨s3.gens.size, m0 + 1, .fresh (.compStart (.GeneratorExp elt [⟨tg, iter, [], 0⟩] scope gpos) 0 (.ref it) .none (genEnv scope cl s3.heap.objs.size cd builtinsNs X.env)), isg _ ea5, I3.nolimit.keeps kp5, by show (s3.gens.push _)[s3.gens.size]? = _; exact Array.getElem?_push_size .., rfl, ?_⟩
    have bare5 : AllBare (s3.gens.push (.fresh (.compStart (.GeneratorExp elt [⟨tg, iter, [], 0⟩] scope gpos) 0 (.ref it) .none (genEnv scope cl s3.heap.objs.size cd builtinsNs X.env)))) := I3.bare.push rfl
    generalize es5 : ({ s3 with gens := s3.gens.push (.fresh (.compStart (.GeneratorExp elt [⟨tg, iter, [], 0⟩] scope gpos) 0 (.ref it) .none (genEnv scope cl s3.heap.objs.size cd builtinsNs X.env))), toks := s3.toks + 1 + 1 + 1, heap := h'.push oa } : Shared) = s5
    have s5g : AllBare s5.gens := by rw [← es5]; exact bare5
    have I5 : L2.Inv (gctx X s3 H3 (genEnv scope cl s3.heap.objs.size cd builtinsNs X.env) ((B3 X.A).over (.compLoop (.GeneratorExp elt [⟨tg, iter, [], 0⟩] scope gpos) 0 (.ref it) .none (genEnv scope cl s3.heap.objs.size cd builtinsNs X.env)) []) fp) [(h'.objs.size, oa)] (wipe σ (own.map (·.2))) H3 (s5.setGen s3.gens.size .running) := by
      have I5 := start (s5.setGen s3.gens.size .running).gens (s3.toks + 1 + 1 + 1) (allBare_setGen s5g rfl)
      rw [← es5] at I5 ⊢
      refine I5.pins_of fun p hp => ?_
      have e : p = (h'.objs.size, oa) := List.mem_singleton.mp hp
      rw [e]
      refine ⟨ea5, I3.hok.fresh (by rw [sz']; exact Nat.le_succ _), ?_, fun hm => ?_, fun v z => ?_⟩
      · show h'.objs.size ≠ s3.heap.objs.size
        rw [sz']
        exact Nat.succ_ne_self _
      · obtain ⟨_, o', e', _⟩ := I3.stack.mem hm
        have lt := Heap.lt_size e'
        have lt : h'.objs.size < s3.heap.objs.size := lt
        omega
      · have z : oa.data = .cell v := z
        rw [← eoa] at z
        cases z
    have st5 : tn 0 (s5.setGen s3.gens.size .running).heap := T.keep _ _ _ st3 fun b hb o e => by
      rw [← es5]
      exact kp5 b o e
    have loop := fun s₀ => gen_loop (own := own) I3 f3 hco rfl rfl (by rw [sz']; exact Nat.le_succ _) isg T (pg s3 H3 s3.heap.objs.size cl cd _ fp) (pe s3 H3 s3.heap.objs.size cl cd _ fp room3) turn m0 (m0 + 1) 0 s₀ _ H3 (Nat.lt_succ_self _) I5 st5 (fun b hb => (f3 b hb).1.1) w0
    show Seg _ _ _ _ _ _ _ ((compStart (.GeneratorExp elt [⟨tg, iter, [], 0⟩] scope gpos) 0 (.ref it) .none (genEnv scope cl s3.heap.objs.size cd builtinsNs X.env)).onRaise (leaving _)) [] _
    unfold compStart
    rw [Sem.onRaise_eq_wrap]
    show Seg _ _ _ _ _ _ _ ((ask >>= _).wrap _ _ _ _) [] _
    refine seg_bind_wrap (wpAny_askSetting ?_)
    split
    · exact seg_again rfl (loop _)
    · first
        | exact seg_bind_wrap (wpAny_rule (seg_bind_wrap (wpAny_standAt (seg_bind_wrap (T.self _ 0 _ _ _ st5 (seg_again rfl (loop _)))))))
        | (refine seg_bind_wrap (wpAny_rule ?_)
           show Seg _ _ _ _ _ _ _ ((standAt iter.pos >>= _).wrap _ _ _ _) [] _
           exact seg_bind_wrap (wpAny_standAt (seg_bind_wrap (T.self _ 0 _ _ _ st5 (seg_again rfl (loop _))))))
  cases hf : codeAmong gpos ps.toList with
  | none =>
    refine wpAny_genexprCodeX code (head.code atP trip) (head.tab atP) hf fun c' h' tk hx hge hlt hco' _ htab' _ => ?_
    obtain ⟨o1, vs, f1, tf, fl, tg, inF, tx, tt, op, _, _, _, _, _, _, _, _, _, htr, _⟩ := hco'
    exact after _ h' tk _ hx htab'.2 htr
  | some cv =>
    refine wpAny_genexprCode_hit code (head.code atP trip) hf ?_
    have z := after cv s2.heap s2.toks #[] (Heap.ExtBut.refl _ _) (by rw [Array.append_empty]; exact atP) (by rw [Array.append_empty]; exact trip)
    exact z

/-- all(element for target in things) -/
theorem pe_allQ {c P : Addr} {elt iter tg : Expr} {p pos gpos : Pos} {scope : Scope} {own : List (Str × Nat)} {wi : TI} {gT : TG} {te : TE} {k : Nat}
    (room : Room (k + 1) X.A) (hN : X.N.Nodup) (hg : Gl X "all") (hm : X.mg "all" = none) (tb : TabB X.base X.mg c P) (code : X.env.code = .ref c) (hi : PI X tg iter wi) (ok : BlkOk X.N X.env.scope scope own) (nocell : (scope.names.all fun y => decide (y.2 ≠ .cell)) = true) (hco : scope.isCoroutine = false) (hdot : scope.names.lookup (".0" : Str) = some NameKind.local)
    (pg : ∀ (s : Shared) (H : Hp) (C : Addr) (cl : List (Str × Addr)) (cd : Value) (A : Around) (fp : List Addr), PG (gctx X s H (genEnv scope cl C cd builtinsNs X.env) A fp) tg gT)
    (pe : ∀ (s : Shared) (H : Hp) (C : Addr) (cl : List (Str × Addr)) (cd : Value) (A : Around) (fp : List Addr), Room k A → PE (gctx X s H (genEnv scope cl C cd builtinsNs X.env) A fp) elt te)
    (fold : ∀ v, genFold iter X.env v = pure v := by intro _; rfl)
    (he : starEach [.GeneratorExp elt [⟨tg, iter, [], 0⟩] scope gpos] X.env = (false, eval (.GeneratorExp elt [⟨tg, iter, [], 0⟩] scope gpos) X.env) :: starEach [] X.env := by rfl) :
    PE X (.Call (.Name "all" p) [.GeneratorExp elt [⟨tg, iter, [], 0⟩] scope gpos] [] pos) (tQuant true P wi gT te (own.map (·.2))) := by
  refine ⟨fun pins s σ H Q I h => ?_⟩
  refine wpAny_Call_Name_kw (ld_blt (u := .builtin "all") I hg hm (by decide +kernel) ?_)
  refine PyProof.Rows.callWith_builtin1 ?_ he (by rfl)
  rw [he]
  show wpAny _ _ (spliced ((false, eval (.GeneratorExp elt [⟨tg, iter, [], 0⟩] scope gpos) X.env) :: backTo pos (starEach [] X.env))) _ _ s
  refine Calls.spliced_cons (gen_Q room hN tb code ok (fun y hy => of_decide_eq_true (List.all_eq_true.mp nocell y hy)) hco hdot hi pg pe fold I h fun a s5 hR => ?_)
  obtain ⟨g, n, gs, hgen, hl, hgs, hgo⟩ := hR
  refine Calls.spliced_nil ?_
  refine call_function_tree F.kind_all F.plain_all F.entry_all (F.args_all1 _) ?_
  unfold Builtin.«all»
  refine wpAny_bind (m := oneArg "all" _) (wpAny_pure ?_)
  refine wpAny_bind (wpAny_pyIter_gen hgen ?_)
  refine wpAny_pure ⟨plainId_quiet F.plain_all_loop _, all_loopQ (A := X.A) room.hd (by have := room.dp; show X.A.depth < _; omega) (fun s' hs => ?_) (fun s' hs => ?_) n s5 gs hgen hl hgs hgo⟩
  · obtain ⟨H', I', q⟩ := hs
    exact ⟨.bl true, H', I', rfl, q⟩
  · obtain ⟨H', I', q⟩ := hs
    exact ⟨.bl false, H', I', rfl, q⟩
/-- any(element for target in things) -/
theorem pe_anyQ {c P : Addr} {elt iter tg : Expr} {p pos gpos : Pos} {scope : Scope} {own : List (Str × Nat)} {wi : TI} {gT : TG} {te : TE} {k : Nat}
    (room : Room (k + 1) X.A) (hN : X.N.Nodup) (hg : Gl X "any") (hm : X.mg "any" = none) (tb : TabB X.base X.mg c P) (code : X.env.code = .ref c) (hi : PI X tg iter wi) (ok : BlkOk X.N X.env.scope scope own) (nocell : (scope.names.all fun y => decide (y.2 ≠ .cell)) = true) (hco : scope.isCoroutine = false) (hdot : scope.names.lookup (".0" : Str) = some NameKind.local)
    (pg : ∀ (s : Shared) (H : Hp) (C : Addr) (cl : List (Str × Addr)) (cd : Value) (A : Around) (fp : List Addr), PG (gctx X s H (genEnv scope cl C cd builtinsNs X.env) A fp) tg gT)
    (pe : ∀ (s : Shared) (H : Hp) (C : Addr) (cl : List (Str × Addr)) (cd : Value) (A : Around) (fp : List Addr), Room k A → PE (gctx X s H (genEnv scope cl C cd builtinsNs X.env) A fp) elt te)
    (fold : ∀ v, genFold iter X.env v = pure v := by intro _; rfl)
    (he : starEach [.GeneratorExp elt [⟨tg, iter, [], 0⟩] scope gpos] X.env = (false, eval (.GeneratorExp elt [⟨tg, iter, [], 0⟩] scope gpos) X.env) :: starEach [] X.env := by rfl) :
    PE X (.Call (.Name "any" p) [.GeneratorExp elt [⟨tg, iter, [], 0⟩] scope gpos] [] pos) (tQuant false P wi gT te (own.map (·.2))) := by
  refine ⟨fun pins s σ H Q I h => ?_⟩
  refine wpAny_Call_Name_kw (ld_blt (u := .builtin "any") I hg hm (by decide +kernel) ?_)
  refine PyProof.Rows.callWith_builtin1 ?_ he (by rfl)
  rw [he]
  show wpAny _ _ (spliced ((false, eval (.GeneratorExp elt [⟨tg, iter, [], 0⟩] scope gpos) X.env) :: backTo pos (starEach [] X.env))) _ _ s
  refine Calls.spliced_cons (gen_Q room hN tb code ok (fun y hy => of_decide_eq_true (List.all_eq_true.mp nocell y hy)) hco hdot hi pg pe fold I h fun a s5 hR => ?_)
  obtain ⟨g, n, gs, hgen, hl, hgs, hgo⟩ := hR
  refine Calls.spliced_nil ?_
  refine call_function_tree F.kind_any F.plain_any F.entry_any (F.args_any1 _) ?_
  unfold Builtin.«any»
  refine wpAny_bind (m := oneArg "any" _) (wpAny_pure ?_)
  refine wpAny_bind (wpAny_pyIter_gen hgen ?_)
  refine wpAny_pure ⟨plainId_quiet F.plain_any_loop _, any_loopQ (A := X.A) room.hd (by have := room.dp; show X.A.depth < _; omega) (fun s' hs => ?_) (fun s' hs => ?_) n s5 gs hgen hl hgs hgo⟩
  · obtain ⟨H', I', q⟩ := hs
    exact ⟨.bl false, H', I', rfl, q⟩
  · obtain ⟨H', I', q⟩ := hs
    exact ⟨.bl true, H', I', rfl, q⟩
end
end Gq

set_option Elab.async false
set_option linter.all false
set_option maxRecDepth 100000
set_option maxHeartbeats 2000000
/-! all(..) over a text's signs, over a tuple's things: by an invariant of the heap. -/
namespace Gq
open PySem PySem.Spec PyProof.Rows L2 GxR Gx
theorem all_at {α : Type} {l : List α} {pb : α → Bool} {i : Nat} {x : α} (h : l[i]? = some x) : (l.take (i + 1)).all pb = ((l.take i).all pb && pb x) := by
  rw [List.take_add_one, h, List.all_append] <;> simp
theorem all_no {α : Type} {l : List α} {pb : α → Bool} {x : α} (h : x ∈ l) (hp : pb x = false) : l.all pb = false := by
  cases e : l.all pb with
  | false => rfl
  | true =>
    rw [List.all_eq_true.mp e x h] at hp
    cases hp
theorem q_str {z : Str} {gT : TG} {te : TE} {vs : List Nat} {σ : L2.St} {H2 : Hp} {Q : VK} {pb : Nat → Bool} (Iv : Hp → Prop) (h0 : Iv H2)
    (hs : ∀ c H (R : VK), c ∈ z.cps.toList → Iv H → (∀ H3, Iv H3 → R (.bl (pb c)) H3) → gT (.str ⟨#[c]⟩) (wipe σ vs) H fun σ2 H' => wipe σ2 vs = wipe σ vs ∧ te σ2 H' R) (hQ : ∀ H, Iv H → Q (.bl (z.cps.toList.all pb)) H) :
    ∃ W : Nat → Nat → Hp → Prop, (∃ m, W 0 m H2) ∧ ∀ i m H, W i m H → ((Its z).stop i H ∧ Q (.bl true) H) ∨ ((Its z).go i H ∧ ∃ Nx : Hp → Prop, (∀ H', Nx H' → ∃ m', m' < m ∧ W (i + 1) m' H') ∧ ∀ x H', (Its z).yld i H x H' → gT x (wipe σ vs) H' fun σ2 H2 => wipe σ2 vs = wipe σ vs ∧
      te σ2 H2 fun y H3 => ∃ b : Bool, y = .bl b ∧ (b = true → Nx H3) ∧ (b ≠ true → Q (.bl (!true)) H3)) := by
  have el : z.cps.toList.length = z.cps.size := Array.length_toList
  refine ⟨fun i m H => m = z.cps.size - i ∧ i ≤ z.cps.size ∧ Iv H ∧ (z.cps.toList.take i).all pb = true, ⟨_, rfl, Nat.zero_le _, h0, rfl⟩, ?_⟩
  rintro i m H ⟨rfl, hi, iv, hp⟩
  rcases Nat.lt_or_ge i z.cps.size with lt | ge
  · refine .inr ⟨lt, fun H' => Iv H' ∧ (z.cps.toList.take (i + 1)).all pb = true, fun H' q => ⟨_, Nat.sub_succ_lt_self _ _ lt, rfl, lt, q⟩, ?_⟩
    rintro x H' ⟨rfl, c, ec, rfl⟩
    have ec' : z.cps.toList[i]? = some c := by rw [Array.getElem?_toList]; exact ec
    have mc := List.mem_of_getElem? ec'
    refine hs c _ _ mc iv fun H3 iv3 => ⟨pb c, rfl, fun e => ⟨iv3, by rw [all_at ec', hp, e] <;> rfl⟩, fun e => ?_⟩
    have e' : pb c = false := by cases q : pb c with
      | false => rfl
      | true => exact absurd q e
    have q := hQ H3 iv3
    rw [all_no mc e'] at q
    exact q
  · obtain rfl : i = z.cps.size := Nat.le_antisymm hi ge
    refine .inl ⟨Nat.le_refl _, ?_⟩
    have q := hQ H iv
    rw [← el, List.take_length] at hp
    rw [hp] at q
    exact q
theorem q_tup {K : PySem.W.Frag} {a : Addr} {xs : List V} {gT : TG} {te : TE} {vs : List Nat} {σ : L2.St} {H2 : Hp} {Q : VK} {pb : V → Bool} (Iv : Hp → Prop) (h0 : Iv H2) (hl : ∀ H, Iv H → SqT K H a xs)
    (hs : ∀ x H (R : VK), x ∈ xs → Iv H → (∀ H3, Iv H3 → R (.bl (pb x)) H3) → gT x (wipe σ vs) H fun σ2 H' => wipe σ2 vs = wipe σ vs ∧ te σ2 H' R) (hQ : ∀ H, Iv H → Q (.bl (xs.all pb)) H) :
    ∃ W : Nat → Nat → Hp → Prop, (∃ m, W 0 m H2) ∧ ∀ i m H, W i m H → ((Itt K a).stop i H ∧ Q (.bl true) H) ∨ ((Itt K a).go i H ∧ ∃ Nx : Hp → Prop, (∀ H', Nx H' → ∃ m', m' < m ∧ W (i + 1) m' H') ∧ ∀ x H', (Itt K a).yld i H x H' → gT x (wipe σ vs) H' fun σ2 H2 => wipe σ2 vs = wipe σ vs ∧
      te σ2 H2 fun y H3 => ∃ b : Bool, y = .bl b ∧ (b = true → Nx H3) ∧ (b ≠ true → Q (.bl (!true)) H3)) := by
  refine ⟨fun i m H => m = xs.length - i ∧ i ≤ xs.length ∧ Iv H ∧ (xs.take i).all pb = true, ⟨_, rfl, Nat.zero_le _, h0, rfl⟩, ?_⟩
  rintro i m H ⟨rfl, hi, iv, hp⟩
  rcases Nat.lt_or_ge i xs.length with lt | ge
  · refine .inr ⟨?_, fun H' => Iv H' ∧ (xs.take (i + 1)).all pb = true, fun H' q => ⟨_, Nat.sub_succ_lt_self _ _ lt, rfl, lt, q⟩, ?_⟩
    · exact ⟨xs, xs[i], hl H iv, List.getElem?_eq_getElem lt⟩
    · rintro x H' ⟨rfl, y⟩
      have ex := y xs (hl _ iv)
      have mx := List.mem_of_getElem? ex
      refine hs x _ _ mx iv fun H3 iv3 => ⟨pb x, rfl, fun e => ⟨iv3, by rw [all_at ex, hp, e] <;> rfl⟩, fun e => ?_⟩
      have e' : pb x = false := by cases q : pb x with
        | false => rfl
        | true => exact absurd q e
      have q := hQ H3 iv3
      rw [all_no mx e'] at q
      exact q
  · obtain rfl : i = xs.length := Nat.le_antisymm hi ge
    refine .inl ⟨?_, ?_⟩
    · exact ⟨xs, hl H iv, Nat.le_refl _⟩
    have q := hQ H iv
    rw [List.take_length] at hp
    rw [hp] at q
    exact q
end Gq

set_option Elab.async false
set_option linter.all false
set_option maxRecDepth 100000
set_option maxHeartbeats 2000000
/-! Defs that run where no guard stands around (repr of data): their contracts, the law's end. -/
namespace Gr
open PySem PySem.Spec PyProof.Rows L2 GxR Gx
/-- FnOk for callers with no guard around -/
structure FnG (P : Program) (w : World) (K : PySem.W.Frag) (mg : Str → Option Value) (base : Heap) (k : Nat) (f : Addr) (fd : FuncData) (ps : List Str) (sp : Sp) : Prop where
  len : ∀ vs H Q E, sp vs H Q E → vs.length = ps.length
  run : ∀ (A : Around) (outer : List Env) (s : Shared) (H : Hp) (args : Args) (us : List Value) (vs : List V) (Q : VK) (E : XK), A.guards = some [] → Room k A → Env0 P w K mg base A outer s H → BindsTo s fd args (ps.zip us) → Vals vs us → sp vs H Q E →
    codeAny (model P w) A (.call (.ref f) args) (CR CX0 outer P w H s Q E) s
section
variable {P : Program} {w : World} {K : PySem.W.Frag} {mg : Str → Option Value} {base : Heap} {x qual : Str} {params : Arguments} {body : List Stmt} {scope : Scope} {dvs : List V} {kws : List (Str × V)} {N ps : List Str} {k : Nat} {sp : Sp}
theorem okG {f : Addr} {fd : FuncData} (F : FunD K x qual params body scope dvs kws f fd) (S : FnScope N ps scope) (len : ∀ vs H Q E, sp vs H Q E → vs.length = ps.length)
    (hbody : ∀ (c : Value) (A : Around) (outer : List Env) (s : Shared) (H : Hp) (vs : List V) (Q : VK) (E : XK), (A.deeper (envOfC qual scope s.heap.objs.size f c)).guards = some [] → Room k (A.deeper (envOfC qual scope s.heap.objs.size f c)) → sp vs H Q E →
      ∃ t, PSs (cxOf CX0 P w K mg base N qual scope f c A outer s H E).nox body t ∧ t { nx := fun _ H' => Q .non H', rt := Q } (start N vs) H) : FnG P w K mg base (k + 1) f fd ps sp := by
  obtain ⟨oc, od, dV, kV, doc, pm, an, cdv, ct, osl, rfl, lk, hcd, _, _⟩ := F.ex
  refine ⟨len, fun A outer s H args us vs Q E hgd hr e0 hb r hsp => ?_⟩
  have KX : K.In s.heap := e0.mod.kin.keeps fun b o e => (e0.bs b o e).1
  have kinds : ∀ y ∈ ps.zip us, scope.names.lookup y.1 = some .local ∨ (scope.names.lookup y.1 = some .cell ∧ ((cellsFrom (s.heap.objs.size + 1) scope.names []).lookup y.1).isSome = true) := by
    rintro ⟨n, v⟩ hy
    exact (S.par n (List.of_mem_zip hy).1).imp_right fun q => ⟨q, PySem.W.cellsFrom_some _ _ _ (.inl q)⟩
  refine codeAny_call_function hr.depth (KX _ _ lk) rfl S.co S.gen rfl (PySem.W.codeRec_of KX hcd) (hb _ _ _ _ (wpAny_newFunctionEnv_cells S.kind kinds fun env he s1 x => ?_))
  subst he
  refine ⟨(e0.mod.nolimit.keeps fun b o e => (e0.bs b o e).1).keeps x.toInCall.keep, codeAny_func ?_⟩
  obtain ⟨t, ht, hq⟩ := hbody cdv A outer s H vs Q E hgd (hr.deeper _) hsp
  have I : L2.Inv (cxOf CX0 P w K mg base N qual scope f cdv A outer s H E) [] (start N vs) H s1 := inv_start S hr.hd e0 (len _ _ _ _ hsp) r x
  refine wpAny_mono (ht.nox.run [] s1 (start N vs) H _ I hq) (fun fl s' hs => ?_) fun e s' hs => hs
  cases fl with
  | ret u =>
    obtain ⟨v, σ', H', J, rv, q⟩ := hs
    exact ⟨v, H', J.os, J.bare, J.base, J.hok, rv, q⟩
  | next =>
    obtain ⟨σ', H', J, q⟩ := hs
    exact ⟨.non, H', J.os, J.bare, J.base, J.hok, rfl, q⟩
  | brk => exact hs.elim fun _ h => h.elim fun _ h => h.2.elim
  | cont => exact hs.elim fun _ h => h.elim fun _ h => h.2.elim
end
/-- repr of data -/
theorem call_reprD {X : Cx} (hgd : X.A.guards = some []) (hu : X.A.units + 70 < cLine) : CallR X (.builtin "repr") (fun xs H Q => ∃ (a : Addr) (d : PyData), xs = [.ref a] ∧ Dp X.K H (.ref a) d ∧ d.showable = true ∧ d.hasDict = false ∧ d.depth ≤ 64 ∧ d.shown.length ≤ sizeLine ∧ Q (.str d.shown) H) := by
  intro pins s σ H xs us Q I r h
  obtain ⟨a, d, rfl, hd, hs, hn, hdep, hz, q⟩ := h
  obtain ⟨u, rfl, ru⟩ := vals1 r
  cases (show u = Value.ref a from ru)
  obtain ⟨as, R⟩ := Dp.reads I d _ _ hd rfl
  refine repr_of_reads' R hs (fun z => by rw [hn] at z; cases z) hgd (by omega) (fun _ _ e => e) (fun h' u tk kp => ?_) hz
  exact ⟨.str d.shown, H, I.kept (t' := tk) kp, ⟨u, rfl⟩, q⟩
theorem call_reprS {X : Cx} : CallR X (.builtin "repr") (fun xs H Q => ∃ z : Str, xs = [.str z] ∧ (reprText z).length ≤ sizeLine ∧ Q (.str (reprText z)) H) := by
  intro pins s σ H xs us Q I r h
  obtain ⟨z, rfl, hz, q⟩ := h
  obtain ⟨u, rfl, t, rfl⟩ := vals1 r
  exact P.repr_of_str ⟨.str _, H, I.tok _, ⟨_, rfl⟩, q⟩ hz
theorem call_reprN {X : Cx} : CallR X (.builtin "repr") (fun xs H Q => xs = [.non] ∧ Q (.str "None") H) := by
  intro pins s σ H xs us Q I r h
  obtain ⟨rfl, q⟩ := h
  obtain ⟨u, rfl, ru⟩ := vals1 r
  cases (show u = Value.none from ru)
  exact P.repr_of_none ⟨.str _, H, I.tok _, ⟨_, rfl⟩, q⟩
end Gr

set_option Elab.async false
set_option linter.all false
set_option maxRecDepth 100000
set_option maxHeartbeats 2000000
/-! The end of a law whose defs ask that no guard stands around. -/
namespace Gr
open PySem PySem.Spec PyProof.Rows L2 GxR Gx
/-- what is tracked at the start: the tables, and the script where the head doesn't hold it -/
def begun (K : PySem.W.Frag) (T : List Addr) (a : Addr) (o : Obj) (xs : List V) : Hp := fun b => if b ∈ T then some (.tbl #[]) else if b = a ∧ K.lookup a = none then some (.frz o (.lst xs)) else none
theorem begun_says {K : PySem.W.Frag} {T : List Addr} {a b : Addr} {o : Obj} {xs : List V} {u : HO} (h : begun K T a o xs b = some u) : (b ∈ T ∧ u = .tbl #[]) ∨ (b = a ∧ K.lookup a = none ∧ u = .frz o (.lst xs)) := by
  by_cases h1 : b ∈ T
  · exact .inl ⟨h1, Option.some.inj (h.symm.trans (if_pos h1))⟩
  · have h2 := h.symm.trans (if_neg h1)
    by_cases h3 : b = a ∧ K.lookup a = none
    · exact .inr ⟨h3.1, h3.2, Option.some.inj (h2.trans (if_pos h3))⟩
    · cases h2.trans (if_neg h3)
theorem law_callG {P : Program} {w : World} {K : PySem.W.Frag} {mg mb : Str → Option Value} {k : Nat} {fa a : Addr} {cs : List (Addr × Addr)} {fd : FuncData} {x : Str} {sp : Sp} {s₁ : Shared} {vs : List Value} {ns : List Int}
    (KX : K.In s₁.heap) (hns : s₁.heap.Ns mainGlobals mg) (hb : s₁.heap.Ns builtinsNs mb) (hbb : ∀ x : Str, x ≠ "__name__" → mb x = bootBuiltins x) (hlim : s₁.heap.NoLimit) (hg : s₁.gens = #[])
    (hT : ∀ p ∈ cs, s₁.heap.get? p.2 = some { cls := .none, data := .fields #[] }) (nT : ∀ p ∈ cs, K.lookup p.2 = none) (C : ∀ p ∈ cs, PySem.W.CodeHd s₁.heap p.1 p.2)
    (hbm : ∃ (bm : Addr) (ob : Obj), mg "__builtins__" = some (.ref bm) ∧ bm ≠ builtinsNs ∧ s₁.heap.get? bm = some ob ∧ ob.cls = .type "module" ∧ ob.dict = some builtinsNs ∧ ob.data = .plain)
    (ha : s₁.heap.get? a = some { cls := .type "list", data := .seq vs.toArray }) (hi : IntsAre vs ns) (hl : ns.length ≤ sizeLine) (hr : Room k callerA)
    (F : ∀ base : Heap, K.In base → base.Ns mainGlobals mg → (∀ p ∈ cs, GxR.TabB base mg p.1 p.2) → FnG P w K mg base k fa fd [x] sp) (hbind : ∀ (s : Shared) (u : Value), BindsTo s fd ⟨[u], []⟩ [(x, u)])
    (hsp : ∀ H : Hp, (∀ p ∈ cs, H p.2 = some (.tbl #[])) → SqL K H a (ns.map V.int) → sp [.ref a] H (fun v _ => v = .bl true) fun _ _ _ => False) :
    codeAny (model P w) callerA (.call (.ref fa) ⟨[.ref a], []⟩) (fun r s' => r = .ok (.ret (.bool true)) ∧ OldK s₁.heap s'.heap ∧ s'.os = s₁.os ∧ AllBare s'.gens) s₁ := by
  have rv := vals_ints hi
  -- the tables
  have inT : ∀ p ∈ cs, p.2 ∈ cs.map (·.2) := fun p hp => List.mem_map_of_mem hp
  have ofT : ∀ b ∈ cs.map (·.2), ∃ p ∈ cs, p.2 = b := fun b hb => List.mem_map.mp hb
  have empty : ∀ b ∈ cs.map (·.2), s₁.heap.get? b = some { cls := .none, data := .fields #[] } := fun b hb => by
    obtain ⟨p, hp, rfl⟩ := ofT b hb
    exact hT p hp
  have aT : a ∉ cs.map (·.2) := fun z => by
    have q := ha.symm.trans (empty a z)
    cases congrArg Obj.data (Option.some.inj q)
  obtain ⟨H, eH⟩ : ∃ H, H = begun K (cs.map (·.2)) a { cls := .type "list", data := .seq vs.toArray } (ns.map V.int) := ⟨_, rfl⟩
  have says : ∀ {b : Addr} {u : HO}, H b = some u → (b ∈ cs.map (·.2) ∧ u = .tbl #[]) ∨ (b = a ∧ K.lookup a = none ∧ u = .frz { cls := .type "list", data := .seq vs.toArray } (.lst (ns.map V.int))) := fun h => begun_says (by rw [eH] at h; exact h)
  have hH : ∀ p ∈ cs, H p.2 = some (.tbl #[]) := fun p hp => by rw [eH]; exact if_pos (inT p hp)
  have len : (ns.map V.int).length ≤ sizeLine := by rw [List.length_map]; exact hl
  have hS : SqL K H a (ns.map V.int) := by
    cases hk : K.lookup a with
    | none => exact .inl (.inr ⟨_, by rw [eH]; exact (if_neg aT).trans (if_pos ⟨rfl, hk⟩)⟩)
    | some o =>
      have e := KX a o hk
      rw [ha] at e
      cases e
      exact .inr ⟨_, vs.toArray, _, hk, rfl, rfl, rfl, by rw [List.size_toArray, hi.length]; exact hl, by simpa using rv⟩
  have hok : HOk P w H s₁.heap := fun b u h => by
    rcases says h with ⟨h1, rfl⟩ | ⟨rfl, _, rfl⟩
    · exact empty b h1
    · exact ⟨ha, len, vs, _, rv, ha⟩
  -- what is neither a list nor a table is not tracked
  have other : ∀ {b : Addr} {o : Obj}, s₁.heap.get? b = some o → (∀ vs n, o.data ≠ .seq vs n) → o.data ≠ .fields #[] → H b = none := fun {b o} e h1 h2 => by
    cases q : H b with
    | none => rfl
    | some u =>
      rcases says q with ⟨h3, _⟩ | ⟨rfl, _, _⟩
      · cases e.symm.trans (empty b h3)
        exact absurd rfl h2
      · cases e.symm.trans ha
        exact absurd rfl (h1 _ _)
  have dict : ∀ {b : Addr} {o : Obj} {es : Array DictEntry} {ep : Nat}, s₁.heap.get? b = some o → o.data = .dict es ep → H b = none := fun e d => by
    refine other e (fun _ _ z => ?_) fun z => ?_
    · cases d.symm.trans z
    · cases d.symm.trans z
  have names : ∀ {b : Addr} {m : Str → Option Value}, s₁.heap.Ns b m → (hidT s₁.heap H).Ns b m := fun ⟨o, es, ep, e, d, r⟩ => ⟨o, es, ep, hidT_get e (dict e d), d, r⟩
  have KB : K.In (hidT s₁.heap H) := fun b o e => hidT_get (KX b o e) (by
    cases q : H b with
    | none => rfl
    | some u =>
      rcases says q with ⟨h1, _⟩ | ⟨rfl, h1, _⟩
      · obtain ⟨p, hp, rfl⟩ := ofT b h1
        cases (nT p hp).symm.trans e
      · cases h1.symm.trans e)
  have M : L2.Mod K mg (hidT s₁.heap H) := ⟨KB, names hns, ⟨mb, names hb, hbb⟩, let ⟨mc, h1, h2⟩ := hlim; ⟨mc, names h1, h2⟩⟩
  have TB : ∀ p ∈ cs, GxR.TabB (hidT s₁.heap H) mg p.1 p.2 := fun p hp => by
    refine ⟨?_, ?_, fun z => ?_⟩
    · obtain ⟨o, us, file, tf, flags, tg, inF, text, tt, e1, r1, r2⟩ := C p hp
      refine ⟨o, us, file, tf, flags, tg, inF, text, tt, hidT_get e1 (other e1 (fun _ _ z => ?_) fun z => ?_), r1, r2⟩
      · cases r2.1.symm.trans z
      · cases r2.1.symm.trans z
        have r3 := r2.2.1
        simp at r3
    · obtain ⟨bm, ob, b1, b2, b3, b4, b5, b6⟩ := hbm
      have isn : ∀ {c : Addr} {o : Obj}, s₁.heap.get? c = some o → o.data ≠ .plain → bm ≠ c := fun e n q => by
        subst q
        cases b3.symm.trans e
        exact n b6
      obtain ⟨o, es, ep, e, d, _⟩ := hns
      exact ⟨bm, ob, b1, b2, isn e (fun z => by cases d.symm.trans z), isn (hT p hp) (fun z => (nomatch z)), hidT_get b3 (other b3 (fun _ _ z => by cases b6.symm.trans z) fun z => by cases b6.symm.trans z), b4, b5, b6⟩
    · obtain ⟨o, es, ep, e, d, _⟩ := hns
      rw [z] at e
      cases e.symm.trans (hT p hp)
      cases d
  have E0 : Env0 P w K mg (hidT s₁.heap H) callerA [] s₁ H := ⟨rfl, M, fun b o e => of_hidT e, Nat.le_of_eq (hidT_size _ _), trivial, fun b hb => (nomatch hb), hok, .of_eq hg⟩
  refine codeAny_mono ((F _ KB (names hns) TB).run callerA [] s₁ H ⟨[.ref a], []⟩ [.ref a] [.ref a] _ _ rfl hr E0 (hbind s₁ (.ref a)) (.cons rfl .nil) (hsp H hH hS)) fun r s' h => ?_
  cases r with
  | error e => exact False.elim h
  | ok fl =>
    cases fl with
    | next => exact False.elim h
    | brk => exact False.elim h
    | cont => exact False.elim h
    | ret u =>
      obtain ⟨v, H', os, bare, un, hok', r', q⟩ := h
      cases (show v = .bl true from q)
      cases (show u = Value.bool true from r')
      -- the tables have grown, all else is as it was
      have grew : ∀ p ∈ cs, ∃ more : Array Value, s'.heap.get? p.2 = some { cls := .none, data := .fields (#[] ++ more) } := fun p hp => by
        obtain ⟨more, z⟩ := un.tbls p.2 #[] (hH p hp)
        exact ⟨more, hok' p.2 _ z⟩
      have stays : ∀ b o, b ∉ cs.map (·.2) → s₁.heap.get? b = some o → s'.heap.get? b = some o := fun b o nb e => by
        cases q : H b with
        | none => exact un.keep b o e q (fun z => (nomatch z)) fun z => (nomatch z)
        | some u =>
          rcases says q with ⟨h1, _⟩ | ⟨rfl, _, rfl⟩
          · exact absurd h1 nb
          · cases e.symm.trans ha
            exact (hok' b _ (un.frzs b _ _ q)).1
      refine ⟨rfl, ⟨fun b o e => ?_, fun b o e => ?_⟩, os, bare⟩
      · by_cases hb : b ∈ cs.map (·.2)
        · obtain ⟨p, hp, rfl⟩ := ofT b hb
          obtain ⟨more, g⟩ := grew p hp
          cases e.symm.trans (hT p hp)
          exact .inr (.inl ⟨((C p hp).tab (hT p hp)).isCodeTable, rfl, #[], more, rfl, g⟩)
        · exact .inl (stays b o hb e)
      · by_cases hb : b ∈ cs.map (·.2)
        · obtain ⟨p, hp, rfl⟩ := ofT b hb
          obtain ⟨more, g⟩ := grew p hp
          exact ⟨_, g⟩
        · exact ⟨o, stays b o hb e⟩
/-- what is known of the law at the head's heap -/
def LawG (l : PySem.W.OpenLaw) (w : World) (K : PySem.W.Frag) (k n : Nat) (x : Str) (mg : Str → Option Value) (fa : Addr) (h : Heap) : Prop :=
  ∃ (fd : FuncData) (cs : List (Addr × Addr)) (sp : Sp), (∀ p ∈ cs, h.get? p.2 = some { cls := .none, data := .fields #[] }) ∧ (∀ p ∈ cs, K.lookup p.2 = none) ∧ (∀ p ∈ cs, PySem.W.CodeHd h p.1 p.2) ∧ (∀ (s : Shared) (u : Value), BindsTo s fd ⟨[u], []⟩ [(x, u)]) ∧
    (∀ (H : Hp) (a : Addr) (ns : List Int), ns.length ≤ n → (∀ p ∈ cs, H p.2 = some (.tbl #[])) → SqL K H a (ns.map V.int) → sp [.ref a] H (fun v _ => v = .bl true) fun _ _ _ => False) ∧
    ∀ base : Heap, K.In base → base.Ns mainGlobals mg → (∀ p ∈ cs, GxR.TabB base mg p.1 p.2) → FnG l.prog w K mg base k fa fd [x] sp
theorem walkG {l : PySem.W.OpenLaw} {n k : Nat} {q : Program} {loose : List Str} {XP : (Str → Option Value) → Heap → Prop} {YP : World → Heap → Prop} {d : DefRec} {x : Str}
    (hn : l.most = some n) (hn2 : n ≤ sizeLine) (hdf : d.params.defaults = []) (hr : Room k callerA)
    (F : ∀ (w : World) (mg : Str → Option Value) (fa : Addr) (h : Heap), YP w h → h.Ns mainGlobals mg → mg d.name = some (.ref fa) → ∃ K : PySem.W.Frag, K.In h ∧ LawG l w K k n x mg fa h) :
    PySem.W.WalkO q loose XP YP l.row.toRowW d [] (fun f vs => PySem.call f vs) := by
  refine Att.attach_callB hn hdf fun w s₀ s₁ mg mb fa o pm cd doc a vs ns G Y ho hd hcd hmg hobj hints hlen hbits hg => ?_
  obtain ⟨K, KX, fd, cs, sp, hT, nT, C, hb, hsp, hF⟩ := F w mg fa _ Y G.T.g hmg
  exact law_callG KX G.T.g G.T.b G.T.builtins G.T.nolimit hg hT nT C G.T.bmain hobj hints (Nat.le_trans hlen hn2) hr hF hb fun H hH hS => hsp H a ns hlen hH hS
end Gr

set_option Elab.async false
set_option linter.all false
set_option maxRecDepth 100000
set_option maxHeartbeats 2000000
namespace K3
open PySem PySem.Spec PyProof.Rows L2 GxR Gx Gq Gr
def top (i : Nat) : Stmt := PySem.Challenge.pw_mastershow_k03_what_are_lines.main.body.getD i (.Pass ⟨0, 0, 0, 0⟩)
abbrev FnP (K : PySem.W.Frag) (x : Str) (st : Stmt) (f : Addr) (fd : FuncData) : Prop := FunD K x x (defArgs st) (defBody st) (defScope st) [] [] f fd
structure Txt (mg : Str → Option Value) : Prop where
  m_len : mg "len" = none
  m_all : mg "all" = none
  m_bool : mg "bool" = none
  m_isinstance : mg "isinstance" = none
  m_list : mg "list" = none
  m_range : mg "range" = none
  m_str : mg "str" = none
  m_int : mg "int" = none
  m_max : mg "max" = none
  m_ord : mg "ord" = none
  m_repr : mg "repr" = none
  m_tuple : mg "tuple" = none
abbrev sis_tuple_within : Stmt := top 1
theorem scis_tuple_within : FnScope ["thing", "least", "most"] ["thing", "least", "most"] (defScope sis_tuple_within) := ⟨rfl, rfl, rfl, by decide +kernel, rfl, by decide +kernel, by decide +kernel⟩
abbrev sis_sign : Stmt := top 6
theorem scis_sign : FnScope ["sign"] ["sign"] (defScope sis_sign) := ⟨rfl, rfl, rfl, by decide +kernel, rfl, by decide +kernel, by decide +kernel⟩
abbrev sis_text : Stmt := top 7
theorem scis_text : FnScope ["thing", "longest", "sign"] ["thing", "longest"] (defScope sis_text) := ⟨rfl, rfl, rfl, by decide +kernel, rfl, by decide +kernel, by decide +kernel⟩
abbrev sis_line : Stmt := top 8
theorem scis_line : FnScope ["thing"] ["thing"] (defScope sis_line) := ⟨rfl, rfl, rfl, by decide +kernel, rfl, by decide +kernel, by decide +kernel⟩
abbrev sis_lines : Stmt := top 9
theorem scis_lines : FnScope ["thing", "line"] ["thing"] (defScope sis_lines) := ⟨rfl, rfl, rfl, by decide +kernel, rfl, by decide +kernel, by decide +kernel⟩
abbrev slaw_pen : Stmt := top 11
theorem sclaw_pen : FnScope ["script"] ["script"] (defScope slaw_pen) := ⟨rfl, rfl, rfl, by decide +kernel, rfl, by decide +kernel, by decide +kernel⟩
abbrev slaw_draw : Stmt := top 12
theorem sclaw_draw : FnScope ["pen", "many", "found", "at", "cell", "number"] ["pen", "many"] (defScope slaw_draw) := ⟨rfl, rfl, rfl, by decide +kernel, rfl, by decide +kernel, by decide +kernel⟩
abbrev slaw_is : Stmt := top 13
theorem sclaw_is : FnScope ["thing", "line", "codes", "odd", "sign", "code"] ["thing"] (defScope slaw_is) := ⟨rfl, rfl, rfl, by decide +kernel, rfl, by decide +kernel, by decide +kernel⟩
abbrev slaw_line : Stmt := top 14
theorem sclaw_line : FnScope ["pen", "signs", "sign", "far", "at"] ["pen"] (defScope slaw_line) := ⟨rfl, rfl, rfl, by decide +kernel, rfl, by decide +kernel, by decide +kernel⟩
abbrev slaw_thing : Stmt := top 15
theorem sclaw_thing : FnScope ["pen", "good", "at", "sign", "odd", "bent", "k"] ["pen"] (defScope slaw_thing) := ⟨rfl, rfl, rfl, by decide +kernel, rfl, by decide +kernel, by decide +kernel⟩
abbrev slaw : Stmt := top 16
theorem sclaw : FnScope ["script", "pen", "k", "thing", "kept", "found"] ["script"] (defScope slaw) := ⟨rfl, rfl, rfl, by decide +kernel, rfl, by decide +kernel, by decide +kernel⟩
section
variable {P : Program} {w : World} {K : PySem.W.Frag} {mg : Str → Option Value} {base : Heap}
theorem ok_draw {f : Addr} {fd : FuncData} (F : FnP K "_law_draw" slaw_draw f fd) (T : Txt mg) : FnOk P w K mg base CX0 1 f fd ["pen", "many"] spDraw := by
  refine okN F sclaw_draw (fun vs H Q E h => ?_) (fun cdv A outer s H vs Q E hr h => ?_)
  · obtain ⟨p, L, ns, n, many, rfl, _⟩ := h
    rfl
  · obtain ⟨p, L, ns, n, many, rfl, hP, h0, hm, hn, k⟩ := h
    refine ⟨_, (pss_cons (ps_if (pt_cmpR op_gt (pe_ix ix_list (pv 0) pe_int (fun _ _ => rfl)) pe_int (nomark _)) (pss_cons (ps_set (i := 2) sclaw_draw.nd rfl (Or.inl rfl) (pe_op op_mod (pe_ix ix_list (pv 0) pe_int (fun _ _ => rfl)) (pv 1)))
      (pss_cons (ps_asg (pe_op op_fdiv (pe_ix ix_list (pv 0) pe_int (fun _ _ => rfl)) (pv 1)) (pg_sub (pv 0) pe_int set_list))
      (pss_one (ps_ret (pv 2))))) pss_nil)
      (pss_cons (ps_set (i := 3) sclaw_draw.nd rfl (Or.inl rfl) (pe_ix ix_list (pv 0) pe_int (fun _ _ => rfl)))
      (pss_cons (ps_asg (pe_op op_add (pv 3) pe_int) (pg_sub (pv 0) pe_int set_list))
      (pss_cons (ps_set (i := 4) sclaw_draw.nd rfl (Or.inl rfl) pe_int)
      (pss_cons (ps_if (pt_cmpR op_gt (pe_callB call_len_seq (by rfl) T.m_len (by decide +kernel) (pa_cons (pe_ix ix_list (pv 0) pe_int (fun _ _ => rfl)) pa_nil)) pe_int (nomark _)) (pss_one (ps_set (i := 4) sclaw_draw.nd rfl (Or.inl rfl) (pe_ix ix_list (pe_ix ix_list (pv 0) pe_int (fun _ _ => rfl)) (pe_op op_mod (pv 3) (pe_callB call_len_seq (by rfl) T.m_len (by decide +kernel) (pa_cons (pe_ix ix_list (pv 0) pe_int (fun _ _ => rfl)) pa_nil))) (fun _ _ => rfl)))) pss_nil)
      (pss_cons (ps_if (PW.pt (pw_and (pt_cmpR op_lt (pv 3) (pe_callB call_len_seq (by rfl) T.m_len (by decide +kernel) (pa_cons (pe_ix ix_list (pv 0) pe_int (fun _ _ => rfl)) pa_nil)) (nomark _)) (pw_and1 (pt_cmpR op_ge (pv 4) (pe_op op_pow pe_int pe_int) (nomark _))))) (pss_cons (ps_asg (pe_op op_fdiv (pv 4) (pv 1)) (pg_sub (pv 0) pe_int set_list))
      (pss_one (ps_ret (pe_op op_mod (pv 4) (pv 1))))) pss_nil)
      (pss_cons (ps_set (i := 5) sclaw_draw.nd rfl (Or.inl rfl) (pe_op op_mod (pe_op op_mul (pe_op op_add (pe_op op_mod (pv 4) pe_int) pe_int) (pe_op op_add (pe_op op_add (pe_op op_mul (pv 3) (pv 3)) (pe_op op_mul pe_int (pv 3))) pe_int)) pe_int))
      (pss_one (ps_ret (pe_op op_mod (pe_op op_fdiv (pe_op op_mod (pe_op op_mul (pe_op op_mod (pe_op op_add (pe_op op_pow (pv 5) pe_int) (pe_op op_mul pe_int (pv 3))) pe_int) pe_int) pe_int) pe_int) (pv 1))))))))))), ?_⟩
    obtain ⟨a, r, hp, ha, han⟩ := hP.at_
    refine ⟨_, rfl, p, _, _, _, rfl, rfl, SqL.of hp, at_of (j := 2) rfl rfl, _, _, rfl, rfl, _, rfl, ite2 (fun hc => ?_) fun hc => ?_⟩
    · refine ⟨_, rfl, p, _, _, _, rfl, rfl, SqL.of hp, at_of (j := 2) rfl rfl, _, rfl, _, _, rfl, rfl, h0, ?_⟩
      refine ⟨_, rfl, p, _, _, _, rfl, rfl, SqL.of hp, at_of (j := 2) rfl rfl, _, rfl, _, _, rfl, rfl, ⟨h0, (by omega)⟩, _, rfl, p, _, _, 2, rfl, rfl, hp, rfl, ?_⟩
      refine ⟨_, rfl, k _ _ (Int.emod_nonneg _ (by omega)) (Int.emod_lt_of_pos _ h0) (hP.put ha (by omega)) But.upd⟩
    · -- at = pen[1]; pen[1] = at + 1; cell = 7
      refine ⟨_, rfl, p, _, _, _, rfl, rfl, SqL.of hp, at_of (j := 1) rfl rfl, ?_⟩
      refine ⟨_, rfl, _, _, rfl, rfl, _, rfl, p, _, _, 1, rfl, rfl, hp, rfl, ?_⟩
      have hP1 : Pen (upd H p (.lst [.ref L, .int (a + 1), .int r])) p L ns (n + 1) := hP.put (by omega) (by omega)
      have b1 : But p H (upd H p (.lst [.ref L, .int (a + 1), .int r])) := But.upd
      generalize eH : upd H p (.lst [.ref L, .int (a + 1), .int r]) = H1 at hP1 b1
      have hp1 : H1 p = some (.lst [.ref L, .int (a + 1), .int r]) := by rw [← eH]; exact upd_same
      have hl1 := hP1.ls
      show tSeq _ _ _ _ (upd H p (.lst [.ref L, .int (a + 1), .int r]))
      rw [eH]
      have eL : (ns.map V.int).length = ns.length := List.length_map ..
      apply viaInt
      · intro rest
        -- if len(pen[0]) > 0: cell = pen[0][at % len(pen[0])]
        refine ⟨_, rfl, p, _, _, _, rfl, rfl, SqL.of hp1, at_of (j := 0) rfl rfl, L, _, rfl, .inl (SqL.of hl1), _, _, rfl, rfl, _, rfl, ite2 (fun hc => ?_) fun hc => ?_⟩
        · have hpos : 0 < ns.length := by
            have h1 := of_decide_eq_true hc
            rw [eL] at h1
            omega
          have hlp : (0 : Int) < ((ns.length : Nat) : Int) := by omega
          have hm0 := Int.emod_nonneg a (show ((ns.length : Nat) : Int) ≠ 0 by omega)
          have hm1 := Int.emod_lt_of_pos a hlp
          obtain ⟨j, ej⟩ : ∃ j : Nat, a % ((ns.length : Nat) : Int) = (j : Int) := ⟨_, (Int.toNat_of_nonneg hm0).symm⟩
          have hj : j < ns.length := by
            rw [ej] at hm1
            omega
          refine ⟨_, rfl, p, _, _, _, rfl, rfl, SqL.of hp1, at_of (j := 0) rfl rfl, _, rfl, _, rfl, p, _, _, _, rfl, rfl, SqL.of hp1, at_of (j := 0) rfl rfl, L, _, rfl, .inl (SqL.of hl1), _, _, rfl, rfl, (by rw [eL]; exact hlp), ?_⟩
          obtain ⟨cell, ec⟩ : ∃ z, ns[j]? = some z := ⟨_, List.getElem?_eq_getElem hj⟩
          refine ⟨L, _, _, .int cell, rfl, rfl, SqL.of hl1, at_of (j := j) (by rw [eL]; exact ej) (by rw [List.getElem?_map, ec]; rfl), ?_⟩
          exact rest cell
        · exact rest 7
      · intro cell
        -- if at < len(pen[0]) and cell >= 10 ** 18
        refine ⟨_, rfl, _, rfl, p, _, _, _, rfl, rfl, SqL.of hp1, at_of (j := 0) rfl rfl, L, _, rfl, .inl (SqL.of hl1), _, _, rfl, rfl, _, rfl, ?_⟩
        have c1 : (0 : Int) ≤ cell % 2147483629 := Int.emod_nonneg _ (by decide)
        have c2 : cell % 2147483629 < 2147483629 := Int.emod_lt_of_pos _ (by decide)
        · refine ite2 (fun _ => ?_) fun _ => ?_
          · refine ⟨_, rfl, _, _, rfl, rfl, ⟨by decide, by decide, by decide⟩, _, _, rfl, rfl, _, rfl, ite2 (fun _ => ?_) fun _ => ?_⟩
            · refine ⟨_, rfl, _, rfl, _, _, rfl, rfl, ⟨h0, (by omega)⟩, _, rfl, p, _, _, 2, rfl, rfl, hp1, rfl, ?_⟩
              refine ⟨_, rfl, _, rfl, _, _, rfl, rfl, h0, ?_⟩
              exact k _ _ (Int.emod_nonneg _ (by omega)) (Int.emod_lt_of_pos _ h0) (hP1.put (by omega) (by omega)) (b1.trans But.upd)
            · refine ⟨_, rfl, _, _, rfl, rfl, (by show (0 : Int) < _; decide), _, _, rfl, rfl, _, rfl, _, rfl, _, _, rfl, rfl, .inl ⟨by omega, by omega⟩, _, rfl, _, _, rfl, rfl, .inl ⟨by decide, by decide⟩, _, _, rfl, rfl, _, _, rfl, rfl, _, _, rfl, rfl, .inl ⟨by omega, by omega⟩, _, _, rfl, rfl, (by show (0 : Int) < _; decide), ?_⟩
              generalize eN : (cell % 2147483629 + 11) * (a * a + 5 * a + 3) % 2147483647 = N
              have n1 : (0 : Int) ≤ N := by rw [← eN]; exact Int.emod_nonneg _ (by decide)
              have n2 : N < 2147483647 := by rw [← eN]; exact Int.emod_lt_of_pos _ (by decide)
              refine ⟨_, rfl, _, _, rfl, rfl, ⟨by decide, by decide, by omega⟩, _, rfl, _, _, rfl, rfl, .inl ⟨by decide, by decide⟩, _, _, rfl, rfl, _, _, rfl, rfl, (by show (0 : Int) < _; decide), ?_⟩
              generalize eM : (N ^ (3 : Int).toNat + 69621 * a) % 2147483587 = M
              have m1 : (0 : Int) ≤ M := by rw [← eM]; exact Int.emod_nonneg _ (by decide)
              have m2 : M < 2147483587 := by rw [← eM]; exact Int.emod_lt_of_pos _ (by decide)
              refine ⟨_, _, rfl, rfl, .inl ⟨by omega, by omega⟩, _, _, rfl, rfl, (by show (0 : Int) < _; decide), _, _, rfl, rfl, ⟨by decide, by decide⟩, _, rfl, _, _, rfl, rfl, h0, ?_⟩
              exact k _ _ (Int.emod_nonneg _ (by omega)) (Int.emod_lt_of_pos _ h0) hP1 b1
          · refine iteF ?_
            refine ⟨_, rfl, _, _, rfl, rfl, (by show (0 : Int) < _; decide), _, _, rfl, rfl, _, rfl, _, rfl, _, _, rfl, rfl, .inl ⟨by omega, by omega⟩, _, rfl, _, _, rfl, rfl, .inl ⟨by decide, by decide⟩, _, _, rfl, rfl, _, _, rfl, rfl, _, _, rfl, rfl, .inl ⟨by omega, by omega⟩, _, _, rfl, rfl, (by show (0 : Int) < _; decide), ?_⟩
            generalize eN : (cell % 2147483629 + 11) * (a * a + 5 * a + 3) % 2147483647 = N
            have n1 : (0 : Int) ≤ N := by rw [← eN]; exact Int.emod_nonneg _ (by decide)
            have n2 : N < 2147483647 := by rw [← eN]; exact Int.emod_lt_of_pos _ (by decide)
            refine ⟨_, rfl, _, _, rfl, rfl, ⟨by decide, by decide, by omega⟩, _, rfl, _, _, rfl, rfl, .inl ⟨by decide, by decide⟩, _, _, rfl, rfl, _, _, rfl, rfl, (by show (0 : Int) < _; decide), ?_⟩
            generalize eM : (N ^ (3 : Int).toNat + 69621 * a) % 2147483587 = M
            have m1 : (0 : Int) ≤ M := by rw [← eM]; exact Int.emod_nonneg _ (by decide)
            have m2 : M < 2147483587 := by rw [← eM]; exact Int.emod_lt_of_pos _ (by decide)
            refine ⟨_, _, rfl, rfl, .inl ⟨by omega, by omega⟩, _, _, rfl, rfl, (by show (0 : Int) < _; decide), _, _, rfl, rfl, ⟨by decide, by decide⟩, _, rfl, _, _, rfl, rfl, h0, ?_⟩
            exact k _ _ (Int.emod_nonneg _ (by omega)) (Int.emod_lt_of_pos _ h0) hP1 b1

/-! ### the pen is made -/
def spPen (K : PySem.W.Frag) : Sp := fun vs H Q _ => ∃ (a : Addr) (ns : List Int), vs = [.ref a] ∧ SqL K H a (ns.map V.int) ∧ ns.length ≤ 63 ∧ ∀ (p L : Addr) (H' : Hp), H p = none → H L = none → Pen H' p L ns 0 → Same H H' → Q (.ref p) H'
theorem ok_pen {f : Addr} {fd : FuncData} (F : FnP K "_law_pen" slaw_pen f fd) (T : Txt mg) : FnOk P w K mg base CX0 1 f fd ["script"] (spPen K) := by
  refine okN F sclaw_pen (fun vs H Q E h => ?_) (fun cdv A outer s H vs Q E hr h => ?_)
  · obtain ⟨a, ns, rfl, _⟩ := h
    rfl
  · obtain ⟨a, ns, rfl, hS, hl, q⟩ := h
    refine ⟨_, (pss_one (ps_ret (pe_lst (pa_cons (pe_callTy call_list_of (by rfl) T.m_list (by decide +kernel) (pa_cons (pe_slice sl_list (pv 0) po_none (po_some pe_int)) pa_nil)) (pa_cons pe_int (pa_cons pe_int pa_nil)))))), ?_⟩
    refine ⟨.ref a, rfl, 63, rfl, a, ns.map V.int, rfl, hS, fun c hc => ?_⟩
    have ec : cutV (ns.map V.int) none (some 63) = ns.map V.int := cut63 (by rw [List.length_map]; exact hl)
    rw [ec]
    refine ⟨c, _, rfl, .inl (SqL.of upd_same), fun L hL => ?_⟩
    refine ⟨(by show 3 ≤ sizeLine; decide), fun p hp => ?_⟩
    have s1 : Same H (upd H c (.lst (ns.map V.int))) := fun b o e => by rw [upd_ne (ne_of_none e hc)]; exact e
    have s2 : Same (upd H c (.lst (ns.map V.int))) (upd (upd H c (.lst (ns.map V.int))) L (.lst (ns.map V.int))) := fun b o e => by rw [upd_ne (ne_of_none e hL)]; exact e
    have s3 : Same (upd (upd H c (.lst (ns.map V.int))) L (.lst (ns.map V.int))) (upd (upd (upd H c (.lst (ns.map V.int))) L (.lst (ns.map V.int))) p (.lst [.ref L, .int 0, .int 0])) := fun b o e => by rw [upd_ne (ne_of_none e hp)]; exact e
    have hLp : L ≠ p := ne_of_none upd_same hp
    exact q p L _ ((s1.trans s2).free hp) (s1.free hL) ⟨⟨0, 0, upd_same, Int.le_refl _, Int.le_refl _⟩, by rw [upd_ne hLp]; exact upd_same, hl⟩ ((s1.trans s2).trans s3)

/-! ### tuples of so many things -/
/-- whether it is a tuple, and of which things -/
inductive Tu (K : PySem.W.Frag) (H : Hp) : V → Option (List V) → Prop where
  | yes {a : Addr} {xs : List V} (e : SqT K H a xs) : Tu K H (.ref a) (some xs)
  | no {v : V} (h : ∃ t, TyX K H v t ∧ PySem.W.kitOne K t (.type "tuple") = some false) : Tu K H v none
def tupB (lo hi : Int) : Option (List V) → Bool
  | some xs => decide (lo ≤ (xs.length : Int)) && decide ((xs.length : Int) ≤ hi)
  | none => false
theorem tupB_0 {hi : Int} {xs : List V} : tupB 0 hi (some xs) = decide ((xs.length : Int) ≤ hi) := by
  show (decide (0 ≤ (xs.length : Int)) && decide ((xs.length : Int) ≤ hi)) = _
  rw [decide_eq_true (show (0 : Int) ≤ (xs.length : Int) by omega), Bool.true_and]
def spTupW (K : PySem.W.Frag) : Sp := fun vs H Q _ => ∃ (v : V) (lo hi : Int) (o : Option (List V)), vs = [v, .int lo, .int hi] ∧ Tu K H v o ∧ Q (.bl (tupB lo hi o)) H
theorem isTupW {H : Hp} {a : Addr} {xs : List V} (e : SqT K H a xs) : ∃ t, TyX K H (.ref a) t ∧ PySem.W.kitOne K t (.type "tuple") = some true := by
  rcases e with (e | ⟨o, e⟩) | ⟨o, its, n, e, c, _⟩
  · exact ⟨_, .base (.tup e), kit_ty (r := true) (by decide +kernel)⟩
  · exact ⟨_, .fTuple e, kit_ty (r := true) (by decide +kernel)⟩
  · exact ⟨_, .kTuple e c, kit_ty (r := true) (by decide +kernel)⟩
theorem ok_tupw {f : Addr} {fd : FuncData} (F : FnP K "is_tuple_within" sis_tuple_within f fd) (T : Txt mg) : FnOk P w K mg base CX0 1 f fd ["thing", "least", "most"] (spTupW K) := by
  refine okN F scis_tuple_within (fun vs H Q E h => ?_) (fun cdv A outer s H vs Q E hr h => ?_)
  · obtain ⟨v, lo, hi, o, rfl, _⟩ := h
    rfl
  · obtain ⟨v, lo, hi, o, rfl, hT, q⟩ := h
    refine ⟨_, (pss_one (ps_ret (pe_and (pe_callB call_isi (by rfl) T.m_isinstance (by decide +kernel) (pa_cons (pv 0) (pa_cons (pe_bltn (v := .ty "tuple") (u := .type "tuple") rfl T.m_tuple (by decide +kernel) rfl) pa_nil))) (pe_one (pe_chain op_le op_le (pv 1) (pe_callB call_len_seq (by rfl) T.m_len (by decide +kernel) (pa_cons (pv 0) pa_nil)) (pv 2)))))), ?_⟩
    cases hT with
    | no hk =>
      obtain ⟨t, ty, kt⟩ := hk
      exact ⟨_, rfl, v, .ty "tuple", t, .type "tuple", false, rfl, .ty "tuple", ty, kt, _, rfl, iteF q⟩
    | @yes a xs e =>
      obtain ⟨t, ty, kt⟩ := isTupW e
      refine ⟨_, rfl, .ref a, .ty "tuple", t, .type "tuple", true, rfl, .ty "tuple", ty, kt, _, rfl, iteT ?_⟩
      have q : Q (.bl (decide (lo ≤ (xs.length : Int)) && decide ((xs.length : Int) ≤ hi))) H := q
      refine ⟨_, rfl, _, rfl, a, xs, rfl, .inr e, _, _, rfl, rfl, _, rfl, iteB (fun h1 => ?_) fun h1 => ?_⟩
      · rw [h1] at q
        exact ⟨_, rfl, _, _, rfl, rfl, q⟩
      · rw [h1] at q
        exact q

/-! ### signs -/
def BAR : List V := [.int 37, .int 92]
def signB (c : Nat) : Bool := !decide (c < 32) && (!decide (126 < c) && !inV (.int (c : Nat)) BAR)
theorem lt1 (a b : Nat) : decide (([a] : List Nat) < [b]) = decide (a < b) := by
  rw [Bool.eq_iff_iff, decide_eq_true_eq, decide_eq_true_eq]
  simp [List.cons_lt_cons_iff]
def spSign : Sp := fun vs H Q _ => ∃ c : Nat, vs = [.str ⟨#[c]⟩] ∧ Q (.bl (signB c)) H
theorem ok_sign {f : Addr} {fd : FuncData} (F : FnP K "is_sign" sis_sign f fd) (T : Txt mg) (gB : mg "BARRED_CODES" = some (.ref (He.ga K "BARRED_CODES"))) (tB : ∀ H, SqT K H (He.ga K "BARRED_CODES") BAR) : FnOk P w K mg base CX0 1 f fd ["sign"] spSign := by
  refine okN F scis_sign (fun vs H Q E h => ?_) (fun cdv A outer s H vs Q E hr h => ?_)
  · obtain ⟨c, rfl, _⟩ := h
    rfl
  · obtain ⟨c, rfl, q⟩ := h
    refine ⟨_, (pss_one (ps_ret (pe_and (pe_chain op_le_str op_le_str pe_str (pv 0) pe_str) (pe_one (pe_cmpR op_notIn_seq (pe_callB call_ord (by rfl) T.m_ord (by decide +kernel) (pa_cons (pv 0) pa_nil)) (pe_glob (v := .ref (He.ga K "BARRED_CODES")) rfl gB rfl) rfl))))), ?_⟩
    have e1 : (!decide ((⟨#[c]⟩ : Str).cps.toList < (" " : Str).cps.toList)) = !decide (c < 32) := congrArg Bool.not (lt1 c 32)
    have e2 : (!decide (("~" : Str).cps.toList < (⟨#[c]⟩ : Str).cps.toList)) = !decide (126 < c) := congrArg Bool.not (lt1 126 c)
    have eq : signB c = (!decide ((⟨#[c]⟩ : Str).cps.toList < (" " : Str).cps.toList) && (!decide (("~" : Str).cps.toList < (⟨#[c]⟩ : Str).cps.toList) && !inV (.int (c : Nat)) BAR)) := by rw [e1, e2] <;> rfl
    rw [eq] at q
    refine ⟨_, rfl, _, _, rfl, rfl, _, rfl, iteB (fun h1 => ?_) fun h1 => ?_⟩
    · rw [h1] at q
      refine ⟨_, _, rfl, rfl, _, rfl, iteB (fun h2 => ?_) fun h2 => ?_⟩
      · rw [h2] at q
        exact ⟨_, rfl, ⟨#[c]⟩, rfl, rfl, _, BAR, rfl, .inr (tB H), rfl, rfl, q⟩
      · rw [h2] at q
        exact q
    · rw [h1] at q
      exact ⟨_, rfl, q⟩
/-! ### texts, lines -/
def textB (n : Int) : V → Bool
  | .str z => decide ((z.length : Int) ≤ n) && z.cps.toList.all signB
  | _ => false
theorem textB_no {n : Int} {v : V} (h : isStr v = false) : textB n v = false := by
  cases v <;> first | rfl | cases h
def spTextQ (P1 : Addr) : Sp := fun vs H Q _ => ∃ (v : V) (n : Int), vs = [v, .int n] ∧ Ok1 H v ∧ TabG H P1 ∧ ∀ H2, Tabbed P1 H H2 → Q (.bl (textB n v)) H2
theorem ok_textQ {fd : FuncData} {P1 : Addr} (F : FnP K "is_text" sis_text (He.fAd K ("is_text", none)) fd) (T : Txt mg) (B : GxR.TabB base mg (He.codeOf K ("is_text", none)) P1) (D_is_sign : Dn P w K mg base 1 "is_sign" ["sign"] spSign) :
    FnOk P w K mg base CX0 3 (He.fAd K ("is_text", none)) fd ["thing", "longest"] (spTextQ P1) := by
  refine okCN F scis_text (fun vs H Q E h => ?_) (fun cdv A outer s H vs Q E hc hr h => ?_)
  · obtain ⟨v, n, rfl, _⟩ := h
    rfl
  · obtain ⟨v, n, rfl, ⟨hT, hz⟩, hG, q⟩ := h
    subst hc
    refine ⟨_, (pss_one (ps_ret (pe_and (pe_callB call_isi (by rfl) T.m_isinstance (by decide +kernel) (pa_cons (pv 0) (pa_cons (pe_bltn (v := .ty "str") (u := .type "str") rfl T.m_str (by decide +kernel) rfl) pa_nil))) (pe_and (pe_cmpR op_le (pe_callB call_len_str (by rfl) T.m_len (by decide +kernel) (pa_cons (pv 0) pa_nil)) (pv 1) (nomark _)) (pe_one (pe_allQ (own := [("sign", 2)]) (gT := gName 2) hr scis_text.nd rfl T.m_all B rfl (pi_str (pv 0)) (blkOk_by (own := [("sign", 2)]) (N := ["thing", "longest", "sign"]) (sc := defScope sis_text) (by decide +kernel)) (by decide +kernel) rfl rfl (fun _ _ _ _ _ _ _ => pg_name (i := 2) scis_text.nd rfl (Or.inl rfl)) (fun _ _ _ _ _ _ _ room => pe_dn D_is_sign (room.mono (by decide)) rfl (pa_cons (pv 2) pa_nil)))))))), ?_⟩
    obtain ⟨t, ty, kt⟩ := hT.str_ (K := K)
    refine ⟨_, rfl, v, .ty "str", t, .type "str", isStr v, rfl, .ty "str", ty, kt, _, rfl, ?_⟩
    have same : Tabbed P1 H H := ⟨hG, fun _ _ => rfl⟩
    cases hs : isStr v with
    | false =>
      have q1 := q H same
      rw [textB_no hs] at q1
      exact q1
    | true =>
      obtain ⟨z, rfl⟩ : ∃ z, v = .str z := by cases v <;> first | exact ⟨_, rfl⟩ | cases hs
      refine iteT ?_
      have nb : textB n (.str z) = (decide ((z.length : Int) ≤ n) && z.cps.toList.all signB) := rfl
      rw [nb] at q
      refine ⟨_, rfl, z, rfl, hz z rfl, _, rfl, _, _, rfl, rfl, _, rfl, iteB (fun h1 => ?_) fun h1 => ?_⟩
      · rw [h1] at q
        refine ⟨_, rfl, z, rfl, hG, fun H2 h2 => ?_⟩
        refine q_str (pb := signB) (fun H3 => H3 = H2) rfl ?_ ?_
        · rintro c H3 R _ rfl hR
          exact ⟨rfl, _, rfl, c, rfl, hR _ rfl⟩
        · rintro H3 rfl
          exact q _ h2
      · rw [h1] at q
        exact q H same
def lineV (v : V) : Bool := textB 60 v
def spLine (P1 : Addr) : Sp := fun vs H Q _ => ∃ v : V, vs = [v] ∧ Ok1 H v ∧ TabG H P1 ∧ ∀ H2, Tabbed P1 H H2 → Q (.bl (lineV v)) H2
theorem ok_lineQ {f : Addr} {fd : FuncData} {P1 : Addr} (F : FnP K "is_line" sis_line f fd) {t3 : Tok} (gL : mg "LONGEST_LINE" = some (.int 60 t3)) (D_is_text : Dn P w K mg base 3 "is_text" ["thing", "longest"] (spTextQ P1)) :
    FnOk P w K mg base CX0 4 f fd ["thing"] (spLine P1) := by
  refine okN F scis_line (fun vs H Q E h => ?_) (fun cdv A outer s H vs Q E hr h => ?_)
  · obtain ⟨v, rfl, _⟩ := h
    rfl
  · obtain ⟨v, rfl, hv, hG, q⟩ := h
    refine ⟨_, (pss_one (ps_ret (pe_dn D_is_text (hr.mono (by decide)) rfl (pa_cons (pv 0) (pa_cons (pe_glob (v := .int 60) rfl gL ⟨_, rfl⟩) pa_nil))))), ?_⟩
    exact ⟨_, rfl, v, 60, rfl, hv, hG, q⟩
/-! ### lines -/
theorem sqT_by {H H' : Hp} {a : Addr} {xs : List V} (h : SqT K H a xs) (k1 : ∀ o, H a = some (.tup o) → H' a = some (.tup o)) (k2 : ∀ o u, H a = some (.frz o u) → H' a = some (.frz o u)) : SqT K H' a xs := by
  rcases h with (h | ⟨o, h⟩) | h
  · exact .inl (.inl (k1 _ h))
  · exact .inl (.inr ⟨o, k2 _ _ h⟩)
  · exact .inr h
theorem sqT_same {H H' : Hp} {a : Addr} {xs : List V} (s : Same H H') (h : SqT K H a xs) : SqT K H' a xs := sqT_by h (fun _ e => s _ _ e) fun _ _ e => s _ _ e
theorem sqT_kp {H H' : Hp} {p a : Addr} {xs ys : List V} (hp : H p = some (.lst ys)) (s : Kp p H H') (h : SqT K H a xs) : SqT K H' a xs :=
  sqT_by h (fun _ e => s _ _ e (ne_of e hp fun q => nomatch q)) fun o u e => s _ _ e (ne_of e hp fun q => nomatch q)
/-- whether it is lines -/
inductive Ls (K : PySem.W.Frag) (H : Hp) : V → Bool → Prop where
  | tup {a : Addr} {xs : List V} (e : SqT K H a xs) (h : ∀ x ∈ xs, Ok1 H x) : Ls K H (.ref a) (decide ((xs.length : Int) ≤ 12) && xs.all lineV)
  | no {v : V} (h : ∃ t, TyX K H v t ∧ PySem.W.kitOne K t (.type "tuple") = some false) : Ls K H v false
theorem isTup {H : Hp} {a : Addr} {xs : List V} (e : SqT K H a xs) : ∃ t, TyX K H (.ref a) t ∧ PySem.W.kitOne K t (.type "tuple") = some true := by
  rcases e with (e | ⟨o, e⟩) | ⟨o, its, n, e, c, _⟩
  · exact ⟨_, .base (.tup e), kit_ty (r := true) (by decide +kernel)⟩
  · exact ⟨_, .fTuple e, kit_ty (r := true) (by decide +kernel)⟩
  · exact ⟨_, .kTuple e c, kit_ty (r := true) (by decide +kernel)⟩
theorem no_non {H : Hp} : Ls K H .non false := .no ⟨_, .base .non, kit_ty (r := false) (by decide +kernel)⟩
theorem no_str {H : Hp} {z : Str} : Ls K H (.str z) false := .no ⟨_, .base (.str z), kit_ty (r := false) (by decide +kernel)⟩
theorem no_lst {H : Hp} {a : Addr} {xs : List V} (e : H a = some (.lst xs)) : Ls K H (.ref a) false := .no ⟨_, .base (.lst e), kit_ty (r := false) (by decide +kernel)⟩
/-- only the two tables may have grown -/
def Tab2 (P1 P2 : Addr) (H H' : Hp) : Prop := TabG H' P1 ∧ TabG H' P2 ∧ ∀ b, b ≠ P1 → b ≠ P2 → H' b = H b
theorem Tab2.refl {P1 P2 : Addr} {H : Hp} (h1 : TabG H P1) (h2 : TabG H P2) : Tab2 P1 P2 H H := ⟨h1, h2, fun _ _ _ => rfl⟩
theorem Tab2.kt {P1 P2 : Addr} {H H' : Hp} (t : Tab2 P1 P2 H H') : ∀ b o, H b = some o → b ≠ P1 → b ≠ P2 → H' b = some o := fun b o e n1 n2 => (t.2.2 b n1 n2).trans e
theorem ne_tab {H : Hp} {P' a : Addr} {o : HO} (g : TabG H P') (e : H a = some o) (h : ∀ ps, o ≠ .tbl ps) : a ≠ P' := by
  obtain ⟨ps, g, _⟩ := g
  exact ne_of e g (h ps)
theorem ok1_tab2 {P1 P2 : Addr} {H H' : Hp} {v : V} (h : Ok1 H v) (g1 : TabG H P1) (g2 : TabG H P2) (t : Tab2 P1 P2 H H') : Ok1 H' v := by
  refine ⟨?_, h.2⟩
  have h1 := h.1
  cases h1 with
  | non => exact .non
  | bl b => exact .bl b
  | int i => exact .int i
  | str z => exact .str z
  | lst e => exact .lst (t.kt _ _ e (ne_tab g1 e fun _ q => nomatch q) (ne_tab g2 e fun _ q => nomatch q))
  | tup e => exact .tup (t.kt _ _ e (ne_tab g1 e fun _ q => nomatch q) (ne_tab g2 e fun _ q => nomatch q))
  | dK e => exact .dK (t.kt _ _ e (ne_tab g1 e fun _ q => nomatch q) (ne_tab g2 e fun _ q => nomatch q))
theorem sqT_tab2 {P1 P2 : Addr} {H H' : Hp} {a : Addr} {xs : List V} (g1 : TabG H P1) (g2 : TabG H P2) (t : Tab2 P1 P2 H H') (h : SqT K H a xs) : SqT K H' a xs :=
  sqT_by h (fun _ e => t.kt _ _ e (ne_tab g1 e fun _ q => nomatch q) (ne_tab g2 e fun _ q => nomatch q)) fun _ _ e => t.kt _ _ e (ne_tab g1 e fun _ q => nomatch q) (ne_tab g2 e fun _ q => nomatch q)
theorem Tabbed.other {P1 P2 : Addr} {H H' : Hp} (h : Tabbed P1 H H') (g : TabG H P2) : TabG H' P2 := by
  by_cases e : P2 = P1
  · rw [e]
    exact h.1
  · obtain ⟨ps, g', tr⟩ := g
    exact ⟨ps, (h.2 P2 e).trans g', tr⟩
def spLines (K : PySem.W.Frag) (P1 P2 : Addr) : Sp := fun vs H Q _ => ∃ (v : V) (b : Bool), vs = [v] ∧ Ls K H v b ∧ TabG H P1 ∧ TabG H P2 ∧ ∀ H2, Tab2 P1 P2 H H2 → Q (.bl b) H2
theorem ok_lines {fd : FuncData} {P1 P2 : Addr} (F : FnP K "is_lines" sis_lines (He.fAd K ("is_lines", none)) fd) (T : Txt mg) (B : GxR.TabB base mg (He.codeOf K ("is_lines", none)) P2) {t3 : Tok} (gM : mg "MOST_LINES" = some (.int 12 t3))
    (D_is_tuple_within : Dn P w K mg base 1 "is_tuple_within" ["thing", "least", "most"] (spTupW K)) (D_is_line : Dn P w K mg base 4 "is_line" ["thing"] (spLine P1)) : FnOk P w K mg base CX0 6 (He.fAd K ("is_lines", none)) fd ["thing"] (spLines K P1 P2) := by
  refine okCN F scis_lines (fun vs H Q E h => ?_) (fun cdv A outer s H vs Q E hc hr h => ?_)
  · obtain ⟨v, b, rfl, _⟩ := h
    rfl
  · obtain ⟨v, b, rfl, hL, g1, g2, q⟩ := h
    subst hc
    refine ⟨_, (pss_one (ps_ret (pe_and (pe_dn D_is_tuple_within (hr.mono (by decide)) rfl (pa_cons (pv 0) (pa_cons pe_int (pa_cons (pe_glob (v := .int 12) rfl gM ⟨_, rfl⟩) pa_nil)))) (pe_one (pe_allQ (own := [("line", 1)]) (gT := gName 1) hr scis_lines.nd rfl T.m_all B rfl (pi_tup (pv 0)) (blkOk_by (own := [("line", 1)]) (N := ["thing", "line"]) (sc := defScope sis_lines) (by decide +kernel)) (by decide +kernel) rfl rfl (fun _ _ _ _ _ _ _ => pg_name (i := 1) scis_lines.nd rfl (Or.inl rfl)) (fun _ _ _ _ _ _ _ room => pe_dn D_is_line (room.mono (by decide)) rfl (pa_cons (pv 1) pa_nil))))))), ?_⟩
    have same := Tab2.refl g1 g2
    cases hL with
    | no hk => exact ⟨_, rfl, v, 0, 12, none, rfl, .no hk, _, rfl, iteF (q H same)⟩
    | @tup a xs e hx =>
      refine ⟨_, rfl, .ref a, 0, 12, some xs, rfl, .yes e, _, rfl, ?_⟩
      rw [tupB_0]
      refine iteB (fun h2 => ?_) fun h2 => ?_
      · rw [h2] at q
        refine ⟨_, rfl, a, rfl, ⟨_, e⟩, g2, fun H2 h2 => ?_⟩
        have st : Tab2 P1 P2 H H2 := ⟨Tabbed.other h2 g1, h2.1, fun b _ n2 => h2.2 b n2⟩
        refine q_tup (pb := lineV) (fun H3 => Tab2 P1 P2 H H3) st (fun H3 t => sqT_tab2 g1 g2 t e) ?_ fun H3 t => q H3 t
        rintro x H3 R mx t3 hR
        refine ⟨rfl, _, rfl, x, rfl, ok1_tab2 (hx x mx) g1 g2 t3, t3.1, fun H4 h4 => hR H4 ⟨h4.1, Tabbed.other h4 t3.2.1, fun b n1 n2 => (h4.2 b n1).trans (t3.2.2 b n1 n2)⟩⟩
      · rw [h2] at q
        exact q H same
/-! ### the law's own -/
theorem textB_str {n : Int} {z : Str} : textB n (.str z) = (decide ((z.length : Int) ≤ n) && z.cps.toList.all signB) := rfl
def badB (c : Nat) : Bool := !signB c
theorem line_str {v : V} (h : lineV v = true) : isStr v = true := by
  cases v <;> first | rfl | cases h
theorem no_line {xs : List V} (h : xs.all isStr = false) : xs.all lineV = false := by
  cases e : xs.all lineV with
  | false => rfl
  | true =>
    have h2 : xs.all isStr = true := List.all_eq_true.mpr fun x hx => line_str (List.all_eq_true.mp e x hx)
    rw [h2] at h
    cases h
theorem bad_hi {c : Nat} (h : ¬ ((c : Int) ≤ 126)) : badB c = true := by
  unfold badB signB
  rw [decide_eq_true (show 126 < c by omega)]
  simp
theorem bad_lo {c : Nat} (h : ¬ ((32 : Int) ≤ (c : Int))) : badB c = true := by
  unfold badB signB
  rw [decide_eq_true (show c < 32 by omega)]
  simp
theorem bad_mid {c : Nat} (h1 : (32 : Int) ≤ (c : Int)) (h2 : (c : Int) ≤ 126) : badB c = inV (.int (c : Nat)) BAR := by
  unfold badB signB
  rw [decide_eq_false (show ¬ c < 32 by omega), decide_eq_false (show ¬ 126 < c by omega)]
  simp
theorem dp_ints {K : PySem.W.Frag} {H : Hp} : ∀ l : List Nat, DpAll K H (l.map fun c => V.int (c : Nat)) (l.map fun c => PyData.int (c : Nat))
  | [] => .nil
  | c :: r => .cons (.int _) (dp_ints r)
theorem lay_ints : ∀ l : List Nat, PyData.canLayAll0 (l.map fun c => PyData.int (c : Nat)) = true
  | [] => by simp only [List.map_nil, PyData.canLayAll0]
  | c :: r => by simp only [List.map_cons, PyData.canLayAll0, PyData.canLay0, lay_ints r, Bool.and_self]
theorem dep_ints : ∀ l : List Nat, PyData.depthAll (l.map fun c => PyData.int (c : Nat)) = 0
  | [] => by simp only [List.map_nil, PyData.depthAll]
  | c :: r => by simp only [List.map_cons, PyData.depthAll, PyData.depth, dep_ints r] <;> rfl
theorem shaped_ints (l : List Nat) : SeqAt.shaped (.list (l.map fun c => PyData.int (c : Nat))) = true := by
  unfold SeqAt.shaped
  simp only [PyData.canLay0, PyData.depth, lay_ints, dep_ints] <;> rfl
theorem eqv_nil {l : List Nat} : (!PyData.eqv (.list (l.map fun c => PyData.int (c : Nat))) (.list [])) = !l.isEmpty := by
  cases l with
  | nil => simp only [List.map_nil, PyData.eqv, PyData.eqvAll, List.isEmpty_nil]
  | cons c r => simp only [List.map_cons, PyData.eqv, PyData.eqvAll, List.isEmpty_cons]
theorem good_all {l : List Nat} (h : l.filter badB = []) : l.all signB = true := by
  refine List.all_eq_true.mpr fun c hc => ?_
  have h2 := List.filter_eq_nil_iff.mp h c hc
  unfold badB at h2
  simpa using h2
theorem bad_some {l : List Nat} {c : Nat} {r : List Nat} (h : l.filter badB = c :: r) : l.all signB = false := by
  have hm : c ∈ l.filter badB := by rw [h]; exact List.mem_cons_self
  obtain ⟨h1, h2⟩ := List.mem_filter.mp hm
  refine all_no h1 ?_
  unfold badB at h2
  simpa using h2
def spIsL (K : PySem.W.Frag) : Sp := fun vs H Q _ => ∃ (v : V) (b : Bool), vs = [v] ∧ Ls K H v b ∧ ∀ H2, Same H H2 → Q (.bl b) H2
theorem ok_isL {f : Addr} {fd : FuncData} (F : FnP K "_law_is" slaw_is f fd) (T : Txt mg) : FnOk P w K mg base CX0 1 f fd ["thing"] (spIsL K) := by
  refine okN F sclaw_is (fun vs H Q E h => ?_) (fun cdv A outer s H vs Q E hr h => ?_)
  · obtain ⟨v, b, rfl, _⟩ := h
    rfl
  · obtain ⟨v, b, rfl, hL, q⟩ := h
    refine ⟨_, (pss_cons (ps_if (PW.pt (pw_or (pt_not (pt_val (pe_callB call_isi (by rfl) T.m_isinstance (by decide +kernel) (pa_cons (pv 0) (pa_cons (pe_bltn (v := .ty "tuple") (u := .type "tuple") rfl T.m_tuple (by decide +kernel) rfl) pa_nil))))) (pw_or (pt_cmpR op_gt (pe_callB call_len_seq (by rfl) T.m_len (by decide +kernel) (pa_cons (pv 0) pa_nil)) pe_int (nomark _)) (pw_or1 (pt_not (pt_val (pe_callB (cr_all rfl) (by rfl) T.m_all (by decide +kernel) (pa_cons (pe_lc (own := [("line", 1)]) (g := gName 1) (by rfl) sclaw_is.nd (pi_tup (pv 0)) (blkOk_by (own := [("line", 1)]) (N := ["thing", "line", "codes", "odd", "sign", "code"]) (sc := defScope slaw_is) (by decide +kernel)) (fun _ _ _ _ _ => (pg_name (i := 1) sclaw_is.nd rfl (Or.inl rfl))) (fun _ _ _ _ _ => pts_nil) (fun _ _ _ _ _ => (pe_callB (r := rIsi K) call_isi (by rfl) T.m_isinstance (by decide +kernel) (pa_cons (pv 1) (pa_cons (pe_bltn (v := .ty "str") (u := .type "str") rfl T.m_str (by decide +kernel) rfl) pa_nil))))) pa_nil)))))))) (pss_one (ps_ret pe_bl)) pss_nil)
      (pss_cons (ps_for PassesOwn.never rfl (pi_tup (pv 0)) (pg_name (i := 1) sclaw_is.nd rfl (Or.inl rfl)) (pss_cons (ps_setLc (i := 2) (own := [("sign", 4)]) (g := gName 4) (by rfl) sclaw_is.nd rfl rfl (sw_true rfl rfl rfl (by decide +kernel)) (pi_str (pv 1)) (blkOk_by (own := [("sign", 4)]) (N := ["thing", "line", "codes", "odd", "sign", "code"]) (sc := defScope slaw_is) (by decide +kernel)) (fun _ _ _ _ _ => (pg_name (i := 4) sclaw_is.nd rfl (Or.inl rfl))) (fun _ _ _ _ _ => pts_nil) (fun _ _ _ _ _ => (pe_callB call_ord (by rfl) T.m_ord (by decide +kernel) (pa_cons (pv 4) pa_nil))))
      (pss_cons (ps_setLc (i := 3) (own := [("code", 5)]) (g := gName 5) (by rfl) sclaw_is.nd rfl rfl (sw_true rfl rfl rfl (by decide +kernel)) (pi_list (pv 2)) (blkOk_by (own := [("code", 5)]) (N := ["thing", "line", "codes", "odd", "sign", "code"]) (sc := defScope slaw_is) (by decide +kernel)) (fun _ _ _ _ _ => (pg_name (i := 5) sclaw_is.nd rfl (Or.inl rfl))) (fun _ _ _ _ _ => (pts_one (PW.pt (pw_or (pt_not (pt_chain op_le op_le pe_int (pv 5) pe_int)) (pw_or1 (pt_cmpR (r := rIn K false) op_in_seq (pv 5) (pe_tup (pa_cons pe_int (pa_cons pe_int pa_nil))) rfl)))))) (fun _ _ _ _ _ => (pv 5)))
      (pss_one (ps_if (PW.pt (pw_or (pt_cmpR op_gt (pe_callB call_len_str (by rfl) T.m_len (by decide +kernel) (pa_cons (pv 1) pa_nil)) pe_int (nomark _)) (pw_or1 (pt_cmpR (op_neD hr.units) (pv 3) (pe_lst pa_nil) (nomark _))))) (pss_one (ps_ret pe_bl)) pss_nil)))))
      (pss_one (ps_ret pe_bl)))), ?_⟩
    cases hL with
    | no hk =>
      obtain ⟨t, ty, kt⟩ := hk
      exact ⟨_, rfl, v, .ty "tuple", t, .type "tuple", false, rfl, .ty "tuple", ty, kt, _, rfl, iteT (iteT (q H (Same.refl H)))⟩
    | @tup a xs e hx =>
      obtain ⟨t, ty, kt⟩ := isTup e
      refine ⟨_, rfl, .ref a, .ty "tuple", t, .type "tuple", true, rfl, .ty "tuple", ty, kt, _, rfl, iteF ?_⟩
      refine ⟨_, rfl, a, xs, rfl, .inr e, _, _, rfl, rfl, _, rfl, iteB (fun h1 => ?_) fun h1 => ?_⟩
      · have h2 : decide ((xs.length : Int) ≤ 12) = false := decide_eq_false (by have := of_decide_eq_true h1; omega)
        rw [h2] at q
        exact q H (Same.refl H)
      · have h12 : (xs.length : Int) ≤ 12 := by have := of_decide_eq_false h1; omega
        have h2 : decide ((xs.length : Int) ≤ 12) = true := decide_eq_true h12
        rw [h2] at q
        -- all([isinstance(line, str) for line in thing])
        refine ⟨_, rfl, a, rfl, ⟨_, e⟩, fun D hD => ?_⟩
        refine lc_tup (K := K) (a := a) (xs := xs) (fun i H3 => Same H H3 ∧ H3 D = some (.lst (((xs.take i).map isStr).map V.bl))) ⟨same_new hD, upd_same⟩ (fun i H3 _ t => sqT_same t.1 e) ?_ ?_
        · rintro i x H3 hi ⟨s3, e3⟩
          obtain ⟨t, ty, kt⟩ := ((hx x (List.mem_of_getElem? hi)).1.same s3).str_ (K := K)
          refine ⟨rfl, ?_⟩
          refine ⟨_, rfl, x, .ty "str", t, .type "str", isStr x, rfl, .ty "str", ty, kt, _, e3, ?_, fun b o e => ?_, ?_⟩
          · rw [List.length_map, List.length_map, List.length_take]
            exact small1000 (by omega)
          · rw [upd_ne (ne_of_none e hD)]
            exact s3 b o e
          · rw [upd_same, List.take_add_one, hi, List.map_append, List.map_append] <;> rfl
        · rintro H3 ⟨s3, e3⟩
          rw [List.take_length] at e3
          refine ⟨_, _, rfl, SqL.of e3, _, rfl, iteNb (fun h3 => ?_) fun h3 => ?_⟩
          · have h3 : xs.all isStr = false := by
              rw [List.all_map] at h3
              exact h3
            rw [no_line h3] at q
            exact q H3 s3
          · have h3 : xs.all isStr = true := by
              rw [List.all_map] at h3
              exact h3
            -- for line in thing
            refine ⟨_, rfl, a, rfl, ⟨_, sqT_same s3 e⟩, for_tup (K := K) (a := a) (xs := xs) (fun i σ H4 => ∃ v1 v2 v3 v4 v5 : Option V, σ = [some (.ref a), v1, v2, v3, v4, v5] ∧ Same H H4 ∧ (xs.take i).all lineV = true) ?_ (fun i σ H4 _ ⟨_, _, _, _, _, _, s4, _⟩ => sqT_same s4 e) ?_ ?_⟩
            · exact ⟨_, _, _, _, _, rfl, s3, rfl⟩
            · rintro i x σ H4 hi ⟨v1, v2, v3, v4, v5, rfl, s4, hp⟩
              have mx := List.mem_of_getElem? hi
              obtain ⟨z, rfl⟩ : ∃ z, x = .str z := by
                have hs := List.all_eq_true.mp h3 x mx
                cases x <;> first | exact ⟨_, rfl⟩ | cases hs
              have hz : z.length ≤ sizeLine := (hx _ mx).2 z rfl
              -- codes
              refine ⟨_, rfl, z, rfl, fun D1 hD1 => lc_str (fun j H5 => Same H H5 ∧ H5 D1 = some (.lst ((z.cps.toList.take j).map fun c => V.int (c : Nat)))) ⟨s4.trans (same_new hD1), upd_same⟩ ?_ ?_⟩
              · rintro j c H5 hj ⟨s5, e5⟩
                refine ⟨rfl, ?_⟩
                refine ⟨_, rfl, ⟨#[c]⟩, rfl, rfl, _, e5, ?_, fun b o e => ?_, ?_⟩
                · rw [List.length_map, List.length_take, cps_len]
                  have hlt := (List.getElem?_eq_some_iff.mp hj).1
                  rw [cps_len] at hlt
                  omega
                · rw [upd_ne (ne_of_none (s4 _ _ e) hD1)]
                  exact s5 b o e
                · rw [upd_same, List.take_add_one, hj, List.map_append] <;> rfl
              · rintro H5 ⟨s5, e5⟩
                rw [List.take_length] at e5
                -- odd
                refine ⟨_, rfl, D1, rfl, ⟨_, SqL.of e5⟩, fun D2 hD2 => lc_list (K := K) (a := D1) (xs := z.cps.toList.map fun c => V.int (c : Nat)) (fun j H6 => Same H H6 ∧ H6 D1 = some (.lst (z.cps.toList.map fun c => V.int (c : Nat))) ∧ H6 D2 = some (.lst (((z.cps.toList.take j).filter badB).map fun c => V.int (c : Nat))))
                  ⟨s5.trans (same_new hD2), same_new hD2 _ _ e5, upd_same⟩ (fun j H6 _ t => SqL.of t.2.1) ?_ ?_⟩
                · rintro j x H6 hj ⟨s6, e6, f6⟩
                  obtain ⟨c, hc, rfl⟩ : ∃ c, z.cps.toList[j]? = some c ∧ x = V.int (c : Nat) := by
                    rw [List.getElem?_map] at hj
                    cases hq : z.cps.toList[j]? with
                    | none =>
                      rw [hq] at hj
                      cases hj
                    | some c =>
                      rw [hq] at hj
                      exact ⟨c, rfl, (Option.some.inj hj).symm⟩
                  have nD : D1 ≠ D2 := ne_of_none e5 hD2
                  have lt : ((z.cps.toList.take j).filter badB).length < sizeLine := by
                    have h1 := List.length_filter_le badB (z.cps.toList.take j)
                    rw [List.length_take, cps_len] at h1
                    have hlt := (List.getElem?_eq_some_iff.mp hc).1
                    rw [cps_len] at hlt
                    omega
                  have yes : ∀ {H7 : Hp}, Same H H7 → H7 D1 = some (.lst (z.cps.toList.map fun c => V.int (c : Nat))) → H7 D2 = some (.lst (((z.cps.toList.take j).filter badB).map fun c => V.int (c : Nat))) → badB c = true →
                      ∃ acc, H7 D2 = some (.lst acc) ∧ acc.length < sizeLine ∧ Same H (upd H7 D2 (.lst (acc ++ [V.int (c : Nat)]))) ∧ (upd H7 D2 (.lst (acc ++ [V.int (c : Nat)]))) D1 = some (.lst (z.cps.toList.map fun c => V.int (c : Nat))) ∧
                        (upd H7 D2 (.lst (acc ++ [V.int (c : Nat)]))) D2 = some (.lst (((z.cps.toList.take (j + 1)).filter badB).map fun c => V.int (c : Nat))) := fun {H7} s7 e7 f7 hb => by
                    refine ⟨_, f7, by rw [List.length_map]; exact lt, fun b o e => ?_, ?_, ?_⟩
                    · rw [upd_ne (ne_of_none (s5 _ _ e) hD2)]
                      exact s7 b o e
                    · rw [upd_ne nD]
                      exact e7
                    · rw [upd_same, List.take_add_one, hc, List.filter_append, List.map_append]
                      simp [List.filter, hb]
                  have no : ∀ {H7 : Hp}, H7 D2 = some (.lst (((z.cps.toList.take j).filter badB).map fun c => V.int (c : Nat))) → badB c = false → H7 D2 = some (.lst (((z.cps.toList.take (j + 1)).filter badB).map fun c => V.int (c : Nat))) := fun {H7} f7 hb => by
                    rw [f7, List.take_add_one, hc, List.filter_append]
                    simp [List.filter, hb]
                  refine ⟨rfl, ?_⟩
                  refine ⟨_, rfl, _, _, rfl, rfl, _, rfl, iteB (fun k1 => ?_) fun k1 => ?_⟩
                  · refine ⟨_, _, rfl, rfl, _, rfl, iteNb (fun k2 => ?_) fun k2 => ?_⟩
                    · have hb : badB c = true := bad_hi (of_decide_eq_false k2)
                      exact ⟨_, rfl, yes s6 e6 f6 hb⟩
                    · refine ⟨_, rfl, (by show 2 ≤ sizeLine; decide), fun T7 hT7 => ?_⟩
                      have b7 : badB c = inV (.int (c : Nat)) BAR := bad_mid (of_decide_eq_true k1) (of_decide_eq_true k2)
                      have m7 := same_new (o := .tup BAR) hT7
                      refine ⟨T7, BAR, rfl, .inr (SqT.of upd_same), rfl, rfl, _, rfl, iteB (fun k3 => ?_) fun k3 => ?_⟩
                      · exact ⟨_, rfl, yes (s6.trans m7) (m7 _ _ e6) (m7 _ _ f6) (b7.trans k3)⟩
                      · exact ⟨s6.trans m7, m7 _ _ e6, no (m7 _ _ f6) (b7.trans k3)⟩
                  · have hb : badB c = true := bad_lo (of_decide_eq_false k1)
                    exact ⟨_, rfl, iteT (iteT ⟨_, rfl, yes s6 e6 f6 hb⟩)⟩
                · rintro H6 ⟨s6, e6, f6⟩
                  rw [List.length_map, List.take_length] at f6
                  -- if len(line) > 60 or odd != []
                  refine ⟨_, rfl, z, rfl, hz, _, _, rfl, rfl, _, rfl, iteB (fun k1 => ?_) fun k1 => ?_⟩
                  · have hf : lineV (.str z) = false := by
                      show (decide ((z.length : Int) ≤ 60) && z.cps.toList.all signB) = false
                      rw [decide_eq_false (by have := of_decide_eq_true k1; omega), Bool.false_and]
                    rw [all_no mx hf] at q
                    exact iteT (q H6 s6)
                  · refine ⟨_, rfl, Nat.zero_le _, fun E8 hE8 => ?_⟩
                    have m8 := same_new (o := .lst []) hE8
                    refine ⟨.list ((z.cps.toList.filter badB).map fun c => PyData.int (c : Nat)), .list [], .lst (SqL.of (m8 _ _ f6)) (dp_ints _), .lst (SqL.of upd_same) .nil, shaped_ints _, by decide +kernel, _, rfl, ?_⟩
                    rw [eqv_nil]
                    have l60 : decide ((z.length : Int) ≤ 60) = true := decide_eq_true (by have := of_decide_eq_false k1; omega)
                    cases hq : (z.cps.toList.filter badB) with
                    | nil =>
                      refine iteF ⟨_, _, _, _, _, rfl, s6.trans m8, ?_⟩
                      have hf : lineV (.str z) = true := by
                        show (decide ((z.length : Int) ≤ 60) && z.cps.toList.all signB) = true
                        rw [l60, good_all hq] <;> rfl
                      rw [all_at hi, hp, hf] <;> rfl
                    | cons c r =>
                      have hf : lineV (.str z) = false := by
                        show (decide ((z.length : Int) ≤ 60) && z.cps.toList.all signB) = false
                        rw [l60, bad_some hq] <;> rfl
                      rw [all_no mx hf] at q
                      exact iteT (q _ (s6.trans m8))
            · rintro σ H4 ⟨v1, v2, v3, v4, v5, rfl, s4, hp⟩
              rw [List.take_length] at hp
              rw [hp] at q
              exact q H4 s4
/-! ### drawn lines -/
def Tk (z : Str) : Prop := z.length ≤ 400 ∧ ∀ c ∈ z.cps.toList, c < 128
theorem Tk.sz {z : Str} (h : Tk z) : z.length ≤ sizeLine := Nat.le_of_lt (small1000 (Nat.le_trans h.1 (by decide)))
theorem tk_cut {z : Str} {lo hi : Option Int} (h : ∀ c ∈ z.cps.toList, c < 128) : ∀ c ∈ (cutS z lo hi).cps.toList, c < 128 := fun c hc => by
  have hc : c ∈ ((z.cps.toList.drop (HT.sIx z.length 0 lo)).take (HT.sIx z.length z.length hi - HT.sIx z.length 0 lo)).toArray.toList := hc
  rw [List.toList_toArray] at hc
  exact h c (List.mem_of_mem_drop (List.mem_of_mem_take hc))
theorem tk_add {a b : Str} (ha : ∀ c ∈ a.cps.toList, c < 128) (hb : ∀ c ∈ b.cps.toList, c < 128) : ∀ c ∈ (a ++ b).cps.toList, c < 128 := fun c hc => by
  have hc : c ∈ (a.cps ++ b.cps).toList := hc
  rw [Array.toList_append] at hc
  exact (List.mem_append.mp hc).elim (ha c) (hb c)
theorem mul01 {z : Str} {k : Bool} : Txt.mul z (if k = true then 1 else 0) = if k = true then z else Str.empty := by
  cases k with
  | true => rfl
  | false => rfl
theorem tk_mul {z : Str} {k : Bool} (h : ∀ c ∈ z.cps.toList, c < 128) : ∀ c ∈ (Txt.mul z (if k = true then 1 else 0)).cps.toList, c < 128 := by
  rw [mul01]
  cases k with
  | true => exact h
  | false => exact fun c hc => nomatch hc
theorem len_mul {z : Str} {k : Bool} : (Txt.mul z (if k = true then 1 else 0)).length ≤ z.length := by
  rw [mul01]
  cases k with
  | true => exact Nat.le_refl _
  | false => exact Nat.zero_le _
def SIGN3 : Str := " !\"#$&'()*+,-./0123456789:;<=>?@ABCDEFGHIJKLMNOPQRSTUVWXYZ[]^_`abcdefghijklmnopqrstuvwxyz{|}~"
theorem sign3_len : SIGN3.length = 93 := by decide +kernel
theorem sign3_ok : ∀ c ∈ SIGN3.cps.toList, c < 128 := by decide +kernel
theorem atI_mem {z : Str} {k : Int} {c : Nat} (h : atI z.cps.toList k = some c) : c ∈ z.cps.toList := by
  unfold atI at h
  cases e : ixN z.cps.toList.length k with
  | none =>
    rw [e] at h
    cases h
  | some j =>
    rw [e] at h
    exact List.mem_of_getElem? h
def WORD9 : Str := Txt.mul "word and " 9
def MORE9 : Str := Txt.mul "more {n} " 9
theorem word9 : WORD9.length = 81 ∧ ∀ c ∈ WORD9.cps.toList, c < 128 := by decide +kernel
theorem more9 : MORE9.length = 81 ∧ ∀ c ∈ MORE9.cps.toList, c < 128 := by decide +kernel
def spLineL : Sp := fun vs H Q _ => ∃ (p L : Addr) (ns : List Int) (n : Nat), vs = [.ref p] ∧ Pen H p L ns n ∧ n + 100 < 1000000 ∧ ∀ (z : Str) (H' : Hp), z.length ≤ 163 → Tk z → Pen H' p L ns (n + 3) → Kp p H H' → Q (.str z) H'
theorem ok_lineL {f : Addr} {fd : FuncData} (F : FnP K "_law_line" slaw_line f fd) (T : Txt mg) (D_law_draw : Dn P w K mg base 1 "_law_draw" ["pen", "many"] spDraw) : FnOk P w K mg base CX0 2 f fd ["pen"] spLineL := by
  refine okN F sclaw_line (fun vs H Q E h => ?_) (fun cdv A outer s H vs Q E hr h => ?_)
  · obtain ⟨p, L, ns, n, rfl, _⟩ := h
    rfl
  · obtain ⟨p, L, ns, n, rfl, hP, hn, q⟩ := h
    refine ⟨_, (pss_cons (ps_set (i := 1) sclaw_line.nd rfl (Or.inl rfl) pe_str)
      (pss_cons (ps_set (i := 2) sclaw_line.nd rfl (Or.inl rfl) (pe_ix ix_str (pv 1) (pe_dn D_law_draw (hr.mono (by decide)) rfl (pa_cons (pv 0) (pa_cons (pe_callB call_len_str (by rfl) T.m_len (by decide +kernel) (pa_cons (pv 1) pa_nil)) pa_nil))) (fun _ _ => rfl)))
      (pss_cons (ps_set (i := 3) sclaw_line.nd rfl (Or.inl rfl) (pe_ix ix_list (pe_lst (pa_cons pe_int (pa_cons pe_int (pa_cons pe_int (pa_cons pe_int (pa_cons pe_int (pa_cons pe_int pa_nil))))))) (pe_dn D_law_draw (hr.mono (by decide)) rfl (pa_cons (pv 0) (pa_cons pe_int pa_nil))) (fun _ _ => rfl)))
      (pss_cons (ps_set (i := 4) sclaw_line.nd rfl (Or.inl rfl) (pe_dn D_law_draw (hr.mono (by decide)) rfl (pa_cons (pv 0) (pa_cons (pe_op op_add (pv 3) pe_int) pa_nil))))
      (pss_one (ps_ret (pe_op op_add_str (pe_op op_add_str (pe_slice sl_str (pe_op op_mul_str pe_str pe_int) po_none (po_some (pv 4))) (pe_op op_mul_str (pv 2) (pe_callTy call_int1 (by rfl) T.m_int (by decide +kernel) (pa_cons (pe_cmpR op_gt (pv 3) pe_int (nomark _)) pa_nil)))) (pe_slice sl_str (pe_op op_mul_str pe_str pe_int) po_none (po_some (pe_callB (call_max2 rfl) (by rfl) T.m_max (by decide +kernel) (pa_cons (pe_op op_sub (pe_op op_sub (pv 3) (pv 4)) pe_int) (pa_cons pe_int pa_nil)))))))))))), ?_⟩
    refine ⟨_, rfl, _, rfl, _, rfl, SIGN3, rfl, (by decide +kernel), p, L, ns, n, (SIGN3.length : Int), rfl, hP, (by rw [sign3_len]; decide), (by rw [sign3_len]; decide), (by omega), fun k1 H1 k10 k11 hP1 b1 => ?_⟩
    obtain ⟨c1, e1⟩ := strAt (z := SIGN3) k10 k11
    refine ⟨SIGN3, _, c1, rfl, rfl, (by decide +kernel), e1, ?_⟩
    -- far
    refine ⟨(by show 6 ≤ sizeLine; decide), fun D hD => ?_⟩
    refine ⟨_, rfl, p, L, ns, _, 6, rfl, hP1.new hD, (by decide), (by decide), (by omega), fun k2 H2 k20 k21 hP2 b2 => ?_⟩
    have nD : D ≠ p := hP1.lt_new hD
    obtain ⟨v, e2, hv⟩ := listAt (xs := [V.int 0, V.int 1, V.int 59, V.int 60, V.int 60, V.int 61]) k20 k21
    refine ⟨D, _, _, v, rfl, rfl, SqL.of ((b2 D nD).trans upd_same), e2, ?_⟩
    obtain ⟨far, rfl, f0, f1⟩ : ∃ far : Int, v = V.int far ∧ 0 ≤ far ∧ far ≤ 61 := by
      simp only [List.mem_cons, List.not_mem_nil, or_false] at hv
      rcases hv with rfl | rfl | rfl | rfl | rfl | rfl <;> exact ⟨_, rfl, by decide, by decide⟩
    -- at
    refine ⟨_, rfl, _, rfl, _, _, rfl, rfl, p, L, ns, _, _, rfl, hP2, (by omega), (by omega), (by omega), fun k3 H3 k30 k31 hP3 b3 => ?_⟩
    have kp : Kp p H H3 := ((b1.kp.trans (Kp.new hD)).trans b2.kp).trans b3.kp
    have hP4 : Pen H3 p L ns (n + 3) := hP3.up (by omega)
    have o1 : ∀ c ∈ (⟨#[c1]⟩ : Str).cps.toList, c < 128 := fun c hc => by
      have hc : c ∈ [c1] := hc
      rw [List.mem_singleton.mp hc]
      exact sign3_ok _ (atI_mem e1)
    refine ⟨("word and " : Str), 9, rfl, rfl, mulOk (by decide +kernel) (by decide) (by decide), _, rfl, k3, rfl, WORD9, rfl, (by decide +kernel), ?_⟩
    have l1 := cutS_length WORD9 none (some k3)
    have lw := word9.1
    have lm := more9.1
    refine ⟨_, rfl, _, rfl, _, _, rfl, rfl, .inr ⟨decide (0 < far), rfl, ⟨#[c1]⟩, _, rfl, rfl, mulOk (by rw [len_one]; decide) (by split <;> decide) (by split <;> decide), _, _, rfl, rfl, ?_, ?_⟩⟩
    · have l2 := len_mul (z := ⟨#[c1]⟩) (k := decide (0 < far))
      rw [len_one] at l2
      rw [sizeLine_eq]
      omega
    refine ⟨("more {n} " : Str), 9, rfl, rfl, mulOk (by decide +kernel) (by decide) (by decide), _, rfl, _, rfl, _, _, rfl, rfl, _, _, rfl, rfl, _, _, rfl, _, rfl, MORE9, rfl, (by decide +kernel), _, _, rfl, rfl, ?_, ?_⟩
    · have l2 := len_mul (z := ⟨#[c1]⟩) (k := decide (0 < far))
      rw [len_one] at l2
      have l3 := cutS_length MORE9 none (some (if (0 : Int) > far - k3 - 1 then 0 else far - k3 - 1))
      rw [len_add, sizeLine_eq]
      omega
    · have l2 := len_mul (z := ⟨#[c1]⟩) (k := decide (0 < far))
      rw [len_one] at l2
      have l3 := cutS_length MORE9 none (some (if (0 : Int) > far - k3 - 1 then 0 else far - k3 - 1))
      have lz : ((cutS WORD9 none (some k3) ++ Txt.mul ⟨#[c1]⟩ (if decide (0 < far) = true then 1 else 0)) ++ cutS MORE9 none (some (if (0 : Int) > far - k3 - 1 then 0 else far - k3 - 1))).length ≤ 163 := by
        rw [len_add, len_add]
        omega
      exact q _ _ lz ⟨Nat.le_trans lz (by decide), tk_add (tk_add (tk_cut word9.2) (tk_mul o1)) (tk_cut more9.2)⟩ hP4 kp
/-! ### data, its repr -/
structure Sd (d : PyData) : Prop where
  lay : d.canLay0 = true
  dep : d.depth ≤ 2
  wt : d.weight ≤ 499
  ish : d.intsShort 13 = true
  sh : d.showable = true
theorem tk_ok {z : Str} (h : Tk z) : PyData.strOk z = true := by
  show z.cps.all (fun c => decide (c < 0x110000)) = true
  rw [← Array.all_toList]
  exact List.all_eq_true.mpr fun c hc => decide_eq_true (Nat.lt_trans (h.2 c hc) (by decide))
theorem sd_str {z : Str} (h : Tk z) : Sd (.str z) := ⟨by simp only [PyData.canLay0]; exact tk_ok h, by simp only [PyData.depth]; decide, by simp only [PyData.weight]; exact Nat.le_trans h.1 (by decide), by simp only [PyData.intsShort], by simp only [PyData.showable]⟩
theorem sd_one {z : Str} (h : Tk z) : Sd (.list [.str z]) ∧ Sd (.tuple [.str z]) := by
  have hz : z.cps.size ≤ 400 := h.1
  refine ⟨⟨?_, ?_, ?_, ?_, ?_⟩, ⟨?_, ?_, ?_, ?_, ?_⟩⟩
  · simp only [PyData.canLay0, PyData.canLayAll0, tk_ok h, Bool.and_self]
  · simp only [PyData.depth, PyData.depthAll]; decide
  · simp only [PyData.weight, PyData.weightAll]; omega
  · simp only [PyData.intsShort, PyData.intsShortAll, Bool.and_self]
  · simp only [PyData.showable, PyData.showableAll, Bool.and_self]
  · simp only [PyData.canLay0, PyData.canLayAll0, tk_ok h, Bool.and_self]
  · simp only [PyData.depth, PyData.depthAll]; decide
  · simp only [PyData.weight, PyData.weightAll]; omega
  · simp only [PyData.intsShort, PyData.intsShortAll, Bool.and_self]
  · simp only [PyData.showable, PyData.showableAll, Bool.and_self]
def ItemOk (K : PySem.W.Frag) (H : Hp) (x : V) : Prop := Ok1 H x ∧ ∃ d, Dp K H x d ∧ Sd d
theorem it_str {H : Hp} {z : Str} (h : Tk z) : ItemOk K H (.str z) := ⟨ok_str h.sz, _, .str z, sd_str h⟩
theorem it_lst {H : Hp} {a : Addr} {z : Str} (h : Tk z) (e : H a = some (.lst [.str z])) : ItemOk K H (.ref a) := ⟨ok_ref (.lst e), _, .lst (SqL.of e) (.cons (.str z) .nil), (sd_one h).1⟩
theorem it_tup {H : Hp} {a : Addr} {z : Str} (h : Tk z) (e : H a = some (.tup [.str z])) : ItemOk K H (.ref a) := ⟨ok_ref (.tup e), _, .tup (SqT.of e) (.cons (.str z) .nil), (sd_one h).2⟩
theorem sd_non : Sd .none := ⟨by decide +kernel, by decide +kernel, by decide +kernel, by decide +kernel, by decide +kernel⟩
theorem it_non {H : Hp} : ItemOk K H .non := ⟨⟨.non, fun _ e => nomatch e⟩, _, .non, sd_non⟩
theorem it_five {H : Hp} : ItemOk K H (.int 5) := ⟨⟨.int 5, fun _ e => nomatch e⟩, _, .int 5, ⟨by decide +kernel, by decide +kernel, by decide +kernel, by decide +kernel, by decide +kernel⟩⟩
theorem it_true {H : Hp} : ItemOk K H (.bl true) := ⟨⟨.bl true, fun _ e => nomatch e⟩, _, .bl true, ⟨by decide +kernel, by decide +kernel, by decide +kernel, by decide +kernel, by decide +kernel⟩⟩
theorem items_dp {H : Hp} : ∀ {xs : List V}, (∀ x ∈ xs, ItemOk K H x) → ∃ ds, DpAll K H xs ds ∧ PyData.canLayAll0 ds = true ∧ PyData.depthAll ds ≤ 2 ∧ PyData.weightAll ds ≤ 500 * xs.length ∧ PyData.intsShortAll 13 ds = true ∧ PyData.showableAll ds = true
  | [], _ => ⟨[], .nil, by simp only [PyData.canLayAll0], by simp only [PyData.depthAll]; decide, by simp only [PyData.weightAll]; exact Nat.zero_le _, by simp only [PyData.intsShortAll], by simp only [PyData.showableAll]⟩
  | x :: r, h => by
    obtain ⟨_, d, hd, s1, s2, s3, s4, s5⟩ := h x List.mem_cons_self
    obtain ⟨ds, h1, h2, h3, h4, h5, h6⟩ := items_dp (xs := r) fun y hy => h y (List.mem_cons_of_mem _ hy)
    refine ⟨d :: ds, .cons hd h1, ?_, ?_, ?_, ?_, ?_⟩
    · simp only [PyData.canLayAll0, s1, h2, Bool.and_self]
    · simp only [PyData.depthAll]
      exact Nat.max_le.mpr ⟨s2, h3⟩
    · simp only [PyData.weightAll, List.length_cons]
      omega
    · simp only [PyData.intsShortAll, s4, h5, Bool.and_self]
    · simp only [PyData.showableAll, s5, h6, Bool.and_self]
/-- what repr tells -/
inductive RpO (K : PySem.W.Frag) (H : Hp) : V → Str → Prop where
  | non : RpO K H .non "None"
  | str {z : Str} (h : Tk z) : RpO K H (.str z) (reprText z)
  | ref {a : Addr} {d : PyData} (h : Dp K H (.ref a) d) (l : d.layable0 = true) (i : d.intsShort 13 = true) (s : d.showable = true) : RpO K H (.ref a) d.shown
theorem lay_of {d : PyData} (h1 : d.canLay0 = true) (h2 : d.depth ≤ 64) (h3 : d.weight ≤ 1048576) : d.layable0 = true := by
  show (d.canLay0 && decide (d.depth ≤ 64) && decide (d.weight ≤ 2 ^ 20)) = true
  rw [h1, decide_eq_true h2, decide_eq_true (Nat.le_trans h3 (by decide))] <;> rfl
theorem call_reprV {X : Cx} (hgd : X.A.guards = some []) (hu : X.A.units + 70 < cLine) : CallR X (.builtin "repr") (fun xs H Q => ∃ v z, xs = [v] ∧ RpO X.K H v z ∧ Q (.str z) H) := by
  intro pins s σ H xs us Q I r h
  obtain ⟨v, z, rfl, hv, q⟩ := h
  cases hv with
  | non => exact call_reprN pins s σ H _ us Q I r ⟨rfl, q⟩
  | @str z hz =>
    have sd := sd_str hz
    have l := lay_of sd.lay (Nat.le_trans sd.dep (by decide)) (Nat.le_trans sd.wt (by decide))
    have b := PyProof.Rows.shown_le13 l sd.ish
    rw [show (PyData.str z).shown = reprText z by simp only [PyData.shown]] at b
    exact call_reprS pins s σ H _ us Q I r ⟨z, rfl, Nat.le_trans b (by rw [sizeLine_eq]; decide), q⟩
  | @ref a d hd l i sh =>
    have b := PyProof.Rows.shown_le13 l i
    have l' : (d.canLay0 && decide (d.depth ≤ 64) && decide (d.weight ≤ 2 ^ 20)) = true := l
    simp only [Bool.and_eq_true, decide_eq_true_eq] at l'
    exact call_reprD hgd hu pins s σ H _ us Q I r ⟨a, d, rfl, hd, sh, PyData.hasDict_of_layable l, l'.1.2, Nat.le_trans b (by rw [sizeLine_eq]; decide), q⟩
mutual
theorem dp_keep {H H' : Hp} (kl : ∀ a xs, SqL K H a xs → SqL K H' a xs) (kt : ∀ a xs, SqT K H a xs → SqT K H' a xs) : ∀ {v : V} {d : PyData}, Dp K H v d → Dp K H' v d
  | _, _, .non => .non
  | _, _, .bl b => .bl b
  | _, _, .int i => .int i
  | _, _, .str x => .str x
  | _, _, .lst s h => .lst (kl _ _ s) (dpAll_keep kl kt h)
  | _, _, .tup s h => .tup (kt _ _ s) (dpAll_keep kl kt h)
theorem dpAll_keep {H H' : Hp} (kl : ∀ a xs, SqL K H a xs → SqL K H' a xs) (kt : ∀ a xs, SqT K H a xs → SqT K H' a xs) : ∀ {vs : List V} {ds : List PyData}, DpAll K H vs ds → DpAll K H' vs ds
  | _, _, .nil => .nil
  | _, _, .cons h t => .cons (dp_keep kl kt h) (dpAll_keep kl kt t)
end
theorem RpO.keep {H H' : Hp} {v : V} {z : Str} (kl : ∀ a xs, SqL K H a xs → SqL K H' a xs) (kt : ∀ a xs, SqT K H a xs → SqT K H' a xs) (h : RpO K H v z) : RpO K H' v z := by
  cases h with
  | non => exact .non
  | str h => exact .str h
  | ref h l i s => exact .ref (dp_keep kl kt h) l i s
inductive Tg (K : PySem.W.Frag) (H : Hp) : V → Prop where
  | tup {a : Addr} {xs : List V} (e : SqT K H a xs) (h : ∀ x ∈ xs, ItemOk K H x) (l : xs.length ≤ 40) : Tg K H (.ref a)
  | lst {a : Addr} {xs : List V} (e : H a = some (.lst xs)) (h : ∀ x ∈ xs, ItemOk K H x) (l : xs.length ≤ 40) : Tg K H (.ref a)
  | str {z : Str} (h : Tk z) : Tg K H (.str z)
  | non : Tg K H .non
theorem Tg.ls {H : Hp} {v : V} (h : Tg K H v) : ∃ b, Ls K H v b := by
  cases h with
  | tup e h l => exact ⟨_, .tup e fun x hx => (h x hx).1⟩
  | lst e h l => exact ⟨_, no_lst e⟩
  | str h => exact ⟨_, no_str⟩
  | non => exact ⟨_, no_non⟩
theorem Tg.rp {H : Hp} {v : V} (h : Tg K H v) : ∃ z, RpO K H v z := by
  cases h with
  | tup e h l =>
    obtain ⟨ds, h1, h2, h3, h4, h5, h6⟩ := items_dp h
    refine ⟨_, .ref (.tup e h1) (lay_of ?_ ?_ ?_) ?_ ?_⟩
    · simp only [PyData.canLay0, h2]
    · simp only [PyData.depth]; omega
    · simp only [PyData.weight]; omega
    · simp only [PyData.intsShort, h5]
    · simp only [PyData.showable, h6]
  | lst e h l =>
    obtain ⟨ds, h1, h2, h3, h4, h5, h6⟩ := items_dp h
    refine ⟨_, .ref (.lst (SqL.of e) h1) (lay_of ?_ ?_ ?_) ?_ ?_⟩
    · simp only [PyData.canLay0, h2]
    · simp only [PyData.depth]; omega
    · simp only [PyData.weight]; omega
    · simp only [PyData.intsShort, h5]
    · simp only [PyData.showable, h6]
  | str h => exact ⟨_, .str h⟩
  | non => exact ⟨_, .non⟩
/-! ### things -/
inductive It (p : Addr) (H : Hp) : V → Prop where
  | str {z : Str} (h : Tk z) : It p H (.str z)
  | lst {a : Addr} {z : Str} (h : Tk z) (e : H a = some (.lst [.str z])) (n : a ≠ p) : It p H (.ref a)
  | tup {a : Addr} {z : Str} (h : Tk z) (e : H a = some (.tup [.str z])) (n : a ≠ p) : It p H (.ref a)
  | non : It p H .non
  | five : It p H (.int 5)
  | tru : It p H (.bl true)
theorem It.kp {p : Addr} {H H' : Hp} {v : V} (h : It p H v) (k : Kp p H H') : It p H' v := by
  cases h with
  | str h => exact .str h
  | lst h e n => exact .lst h (k _ _ e n) n
  | tup h e n => exact .tup h (k _ _ e n) n
  | non => exact .non
  | five => exact .five
  | tru => exact .tru
theorem It.ok {p : Addr} {H : Hp} {v : V} (h : It p H v) : ItemOk K H v := by
  cases h with
  | str h => exact it_str h
  | lst h e n => exact it_lst h e
  | tup h e n => exact it_tup h e
  | non => exact it_non
  | five => exact it_five
  | tru => exact it_true
theorem cat_any {H : Hp} {a b : Addr} {xs ys : List V} {Q : VK} (ha : SqT K H a xs) (hb : SqT K H b ys) (hz : xs.length + ys.length ≤ sizeLine) (q : ∀ c H', SqT K H' c (xs ++ ys) → Same H H' → Q (.ref c) H') : rCatA K (.ref a) (.ref b) H Q := by
  refine ⟨a, b, xs, ys, rfl, rfl, ha, hb, hz, fun e => q b H (by rw [e]; exact hb) (Same.refl H), fun _ e => q a H (by rw [e, List.append_nil]; exact ha) (Same.refl H), fun _ _ p hp => q p _ (SqT.of upd_same) (same_new hp)⟩
theorem slA_any {H : Hp} {a : Addr} {xs : List V} {lo hi : Option Int} {Q : VK} (ha : SqT K H a xs) (q : ∀ c H', SqT K H' c (cutV xs lo hi) → Same H H' → Q (.ref c) H') : rSlA K (.ref a) lo hi H Q := by
  refine ⟨a, xs, rfl, ha, fun e => q a H ?_ (Same.refl H), fun _ p hp => q p _ (SqT.of upd_same) (same_new hp)⟩
  unfold cutV
  rw [e.1, e.2, List.drop_zero, Nat.sub_zero, List.take_length]
  exact ha
theorem cut_mem {xs : List V} {lo hi : Option Int} {x : V} (h : x ∈ cutV xs lo hi) : x ∈ xs := List.mem_of_mem_drop (List.mem_of_mem_take h)
def SIGNS3 : Str := "\n\t\\"
theorem signs3_ok : ∀ c ∈ SIGNS3.cps.toList, c < 128 := by decide +kernel
theorem Pen.sq {H H' : Hp} {p L a : Addr} {ns : List Int} {n : Nat} {xs : List V} (hP : Pen H p L ns n) (k : Kp p H H') (h : SqT K H a xs) : SqT K H' a xs := by
  obtain ⟨a, r, hp, _⟩ := hP.at_
  exact sqT_kp hp k h
def spThing (K : PySem.W.Frag) : Sp := fun vs H Q _ => ∃ (p L : Addr) (ns : List Int) (n : Nat), vs = [.ref p] ∧ Pen H p L ns n ∧ n + 200 < 1000000 ∧ ∀ (v : V) (H' : Hp), Tg K H' v → Pen H' p L ns (n + 60) → Kp p H H' → Q v H'
theorem ok_thing {f : Addr} {fd : FuncData} (F : FnP K "_law_thing" slaw_thing f fd) (T : Txt mg) (D_law_draw : Dn P w K mg base 1 "_law_draw" ["pen", "many"] spDraw) (D_law_line : Dn P w K mg base 2 "_law_line" ["pen"] spLineL) : FnOk P w K mg base CX0 3 f fd ["pen"] (spThing K) := by
  refine okN F sclaw_thing (fun vs H Q E h => ?_) (fun cdv A outer s H vs Q E hr h => ?_)
  · obtain ⟨p, L, ns, n, rfl, _⟩ := h
    rfl
  · obtain ⟨p, L, ns, n, rfl, hP, hn, q⟩ := h
    refine ⟨_, (pss_cons (ps_set (i := 1) sclaw_thing.nd rfl (Or.inl rfl) (pe_callTy call_tuple_of (by rfl) T.m_tuple (by decide +kernel) (pa_cons (pe_lc (own := [("k", 6)]) (g := gName 6) (by rfl) sclaw_thing.nd (pi_range1 rfl T.m_range (pa_cons (pe_ix ix_list (pe_lst (pa_cons (pe_dn D_law_draw (hr.mono (by decide)) rfl (pa_cons (pv 0) (pa_cons pe_int pa_nil))) (pa_cons pe_int (pa_cons pe_int pa_nil)))) (pe_dn D_law_draw (hr.mono (by decide)) rfl (pa_cons (pv 0) (pa_cons pe_int pa_nil))) (fun _ _ => rfl)) pa_nil)) (blkOk_by (own := [("k", 6)]) (N := ["pen", "good", "at", "sign", "odd", "bent", "k"]) (sc := defScope slaw_thing) (by decide +kernel)) (fun _ _ _ _ _ => (pg_name (i := 6) sclaw_thing.nd rfl (Or.inl rfl))) (fun _ _ _ _ _ => pts_nil) (fun _ _ _ _ _ => (pe_dn D_law_line (hr.mono (by decide)) rfl (pa_cons (pv 0) pa_nil)))) pa_nil)))
      (pss_cons (ps_if (pt_cmpR op_eq (pe_callB call_len_seq (by rfl) T.m_len (by decide +kernel) (pa_cons (pv 1) pa_nil)) pe_int (nomark _)) (pss_one (ps_ret (pe_ix ix_list (pe_lst (pa_cons (pv 1) (pa_cons (pe_lst pa_nil) (pa_cons pe_non (pa_cons pe_str (pa_cons (pe_tup (pa_cons pe_str pa_nil)) pa_nil)))))) (pe_dn D_law_draw (hr.mono (by decide)) rfl (pa_cons (pv 0) (pa_cons pe_int pa_nil))) (fun _ _ => rfl)))) pss_nil)
      (pss_cons (ps_set (i := 2) sclaw_thing.nd rfl (Or.inl rfl) (pe_dn D_law_draw (hr.mono (by decide)) rfl (pa_cons (pv 0) (pa_cons (pe_callB call_len_seq (by rfl) T.m_len (by decide +kernel) (pa_cons (pv 1) pa_nil)) pa_nil))))
      (pss_cons (ps_set (i := 3) sclaw_thing.nd rfl (Or.inl rfl) (pe_ix ix_str pe_str (pe_dn D_law_draw (hr.mono (by decide)) rfl (pa_cons (pv 0) (pa_cons pe_int pa_nil))) (fun _ _ => rfl)))
      (pss_cons (ps_set (i := 4) sclaw_thing.nd rfl (Or.inl rfl) (pe_lst (pa_cons (pe_op op_add_str (pe_op op_add_str (pe_slice sl_str (pe_ix ix_tup (pv 1) (pv 2) (fun _ _ => rfl)) po_none (po_some pe_int)) (pv 3)) (pe_slice sl_str (pe_ix ix_tup (pv 1) (pv 2) (fun _ _ => rfl)) (po_some pe_int) po_none)) (pa_cons pe_non (pa_cons pe_int (pa_cons pe_bl (pa_cons (pe_lst (pa_cons (pe_ix ix_tup (pv 1) (pv 2) (fun _ _ => rfl)) pa_nil)) (pa_cons (pe_tup (pa_cons (pe_ix ix_tup (pv 1) (pv 2) (fun _ _ => rfl)) pa_nil)) (pa_cons (pe_op op_add_str (pe_ix ix_tup (pv 1) (pv 2) (fun _ _ => rfl)) pe_str) pa_nil)))))))))
      (pss_cons (ps_set (i := 5) sclaw_thing.nd rfl (Or.inl rfl) (pe_op op_catA (pe_op op_catA (pe_slice sl_tupA (pv 1) po_none (po_some (pv 2))) (pe_tup (pa_cons (pe_ix ix_list (pv 4) (pe_dn D_law_draw (hr.mono (by decide)) rfl (pa_cons (pv 0) (pa_cons pe_int pa_nil))) (fun _ _ => rfl)) pa_nil))) (pe_slice sl_tupA (pv 1) (po_some (pe_op op_add (pv 2) pe_int)) po_none)))
      (pss_one (ps_ret (pe_ix ix_list (pe_lst (pa_cons (pv 1) (pa_cons (pv 1) (pa_cons (pv 5) (pa_cons (pv 5) (pa_cons (pe_callTy call_list_of (by rfl) T.m_list (by decide +kernel) (pa_cons (pv 1) pa_nil)) (pa_cons (pe_ix ix_tup (pv 1) (pv 2) (fun _ _ => rfl)) (pa_cons (pe_op op_catA (pv 1) (pe_tup (pa_cons pe_str pa_nil))) pa_nil)))))))) (pe_dn D_law_draw (hr.mono (by decide)) rfl (pa_cons (pv 0) (pa_cons pe_int pa_nil))) (fun _ _ => rfl)))))))))), ?_⟩
    refine ⟨_, rfl, p, L, ns, n, 4, rfl, hP, (by decide), (by decide), (by omega), fun k1 H1 k10 k11 hP1 b1 => ?_⟩
    refine ⟨(by show 3 ≤ sizeLine; decide), fun D0 hD0 => ?_⟩
    have nD0 : D0 ≠ p := hP1.lt_new hD0
    refine ⟨_, rfl, p, L, ns, _, 3, rfl, hP1.new hD0, (by decide), (by decide), (by omega), fun k2 H2 k20 k21 hP2 b2 => ?_⟩
    obtain ⟨v, e2, hv⟩ := listAt (xs := [V.int k1, V.int 12, V.int 13]) k20 k21
    refine ⟨D0, _, _, v, rfl, rfl, SqL.of ((b2 D0 nD0).trans upd_same), e2, ?_⟩
    obtain ⟨many, rfl, m0, m1⟩ : ∃ m : Int, v = V.int m ∧ 0 ≤ m ∧ m ≤ 13 := by
      simp only [List.mem_cons, List.not_mem_nil, or_false] at hv
      rcases hv with rfl | rfl | rfl
      · exact ⟨_, rfl, k10, by omega⟩
      · exact ⟨_, rfl, by decide, by decide⟩
      · exact ⟨_, rfl, by decide, by decide⟩
    have k2' : Kp p H H2 := (b1.kp.trans (Kp.new hD0)).trans b2.kp
    refine ⟨many, rfl, (by omega), (by omega), fun D hD => ?_⟩
    have nD : D ≠ p := hP2.lt_new hD
    refine lc_range (lo := 0) (n := many.toNat) (fun i H3 => ∃ ys : List Str, ys.length = i ∧ (∀ y ∈ ys, y.length ≤ 163 ∧ Tk y) ∧ H3 D = some (.lst (ys.map V.str)) ∧ Pen H3 p L ns (n + 2 + 3 * i) ∧ Kp p H H3) ?_ ?_ ?_
    · exact ⟨[], rfl, fun y hy => (nomatch hy), upd_same, hP2.new hD, k2'.trans (Kp.new hD)⟩
    · rintro i H3 hi ⟨ys, hl, h1, hD3, hP3, k3⟩
      refine ⟨rfl, ?_⟩
      refine ⟨_, rfl, p, L, ns, _, rfl, hP3, (by omega), fun z H4 hz htk hP4 k4 => ?_⟩
      have hD4 := k4 _ _ hD3 nD
      refine ⟨_, hD4, ?_, ys ++ [z], ?_, ?_, ?_, ?_, ?_⟩
      · rw [List.length_map, hl]
        exact small1000 (by omega)
      · rw [List.length_append, hl] <;> rfl
      · intro y hy
        rcases List.mem_append.mp hy with hy | hy
        · exact h1 y hy
        · rw [List.mem_singleton.mp hy]
          exact ⟨hz, htk⟩
      · rw [upd_same, List.map_append] <;> rfl
      · have hP5 : Pen (upd H4 D (.lst (ys.map V.str ++ [V.str z]))) p L ns (n + 2 + 3 * i + 3) := hP4.keep (upd_ne nD.symm) (upd_ne (ne_of_none hP2.ls hD))
        exact hP5.up (by omega)
      · intro b o e nb
        rw [upd_ne (ne_of_none (k2' b o e nb) hD)]
        exact k4 b o (k3 b o e nb) nb
    · rintro H3 ⟨ys, hl, h1, hD3, hP3, k3⟩
      have hP3 : Pen H3 p L ns (n + 41) := hP3.up (by omega)
      have yl : ys.length ≤ 13 := by omega
      refine ⟨D, _, rfl, .inl ⟨SqL.of hD3, fun g hg => ?_⟩⟩
      have ng : g ≠ p := hP3.lt_new hg
      have eg : (upd H3 g (.tup (ys.map V.str))) g = some (.tup (ys.map V.str)) := upd_same
      have hP4 := hP3.new (o := .tup (ys.map V.str)) hg
      have k4 := k3.trans (Kp.new (p := p) (o := .tup (ys.map V.str)) hg)
      revert eg hP4 k4
      generalize upd H3 g (.tup (ys.map V.str)) = H4
      intro eg hP4 k4
      have gl : (ys.map V.str).length = ys.length := List.length_map ..
      have gi : ∀ x ∈ ys.map V.str, ∃ z : Str, x = V.str z ∧ z.length ≤ 163 ∧ Tk z := fun x hx => by
        obtain ⟨z, hz, rfl⟩ := List.mem_map.mp hx
        exact ⟨z, rfl, h1 z hz⟩
      generalize ys.map V.str = gs at eg gl gi
      refine ⟨_, rfl, g, gs, rfl, .inr (SqT.of eg), rfl, _, rfl, iteB (fun c0 => ?_) fun c0 => ?_⟩
      · -- a menu of five
        have gs0 : gs = [] := by
          have h0 : (gs.length : Int) = 0 := V.int.inj (of_decide_eq_true c0)
          exact List.length_eq_zero_iff.mp (by omega)
        subst gs0
        refine ⟨_, rfl, (by show 0 ≤ sizeLine; decide), fun e he => ⟨(by show 1 ≤ sizeLine; decide), fun u hu => ⟨(by show 5 ≤ sizeLine; decide), fun M hM => ?_⟩⟩⟩
        have m1 := same_new (o := .lst []) he
        have m2 := same_new (o := .tup [V.str ("" : Str)]) hu
        have m3 := same_new (o := .lst [V.ref g, V.ref e, V.non, V.str ("" : Str), V.ref u]) hM
        have hP5 := ((hP4.new (o := .lst []) he).new (o := .tup [V.str ("" : Str)]) hu).new (o := .lst [V.ref g, V.ref e, V.non, V.str ("" : Str), V.ref u]) hM
        have ne : e ≠ p := hP4.lt_new he
        have nu : u ≠ p := (hP4.new (o := .lst []) he).lt_new hu
        have nM : M ≠ p := ((hP4.new (o := .lst []) he).new (o := .tup [V.str ("" : Str)]) hu).lt_new hM
        have m := (m1.trans m2).trans m3
        have eg5 := m _ _ eg
        have ee5 := m3 _ _ (m2 e _ upd_same)
        have eu5 := m3 u _ upd_same
        refine ⟨_, rfl, p, L, ns, _, 5, rfl, hP5, (by decide), (by decide), (by omega), fun k6 H6 k60 k61 hP6 b6 => ?_⟩
        obtain ⟨v, e6, hv⟩ := listAt (xs := [V.ref g, V.ref e, V.non, V.str ("" : Str), V.ref u]) k60 k61
        refine ⟨M, _, _, v, rfl, rfl, SqL.of ((b6 M nM).trans upd_same), e6, ?_⟩
        refine q v H6 ?_ (hP6.up (by omega)) ((k4.trans (sameKp m)).trans b6.kp)
        have t0 : Tk ("" : Str) := ⟨by decide +kernel, by decide +kernel⟩
        simp only [List.mem_cons, List.not_mem_nil, or_false] at hv
        rcases hv with rfl | rfl | rfl | rfl | rfl
        · exact .tup (SqT.of ((b6 g ng).trans eg5)) (fun x hx => nomatch hx) (by decide)
        · exact .lst ((b6 e ne).trans ee5) (fun x hx => nomatch hx) (by decide)
        · exact .non
        · exact .str t0
        · refine .tup (SqT.of ((b6 u nu).trans eu5)) (fun x hx => ?_) (by decide)
          rw [List.mem_singleton.mp hx]
          exact it_str t0
      · have gpos : 0 < gs.length := by
          rcases Nat.eq_zero_or_pos gs.length with h0 | h0
          · refine absurd (decide_eq_true ?_) (by rw [c0]; exact Bool.false_ne_true)
            rw [h0] <;> rfl
          · exact h0
        refine ⟨_, rfl, _, rfl, g, gs, rfl, .inr (SqT.of eg), p, L, ns, _, (gs.length : Int), rfl, hP4, (by omega), (by omega), (by omega), fun k5 H5 k50 k51 hP5 b5 => ?_⟩
        refine ⟨_, rfl, p, L, ns, _, 3, rfl, hP5, (by decide), (by decide), (by omega), fun k6 H6 k60 k61 hP6 b6 => ?_⟩
        obtain ⟨c6, e6⟩ := strAt (z := SIGNS3) k60 (show k6 < 3 from k61)
        refine ⟨SIGNS3, _, c6, rfl, rfl, (by decide +kernel), e6, ?_⟩
        have eg6 : H6 g = some (.tup gs) := b6.kp _ _ (b5.kp _ _ eg ng) ng
        have k6' : Kp p H H6 := (k4.trans b5.kp).trans b6.kp
        have hP6 : Pen H6 p L ns (n + 43) := hP6.up (by omega)
        obtain ⟨y, e5, hy⟩ := listAt (xs := gs) k50 k51
        obtain ⟨y, rfl, yl, yt⟩ := gi y hy
        have ys := yt.sz
        have o1 : ∀ c ∈ (⟨#[c6]⟩ : Str).cps.toList, c < 128 := fun c hc => by
          have hc : c ∈ [c6] := hc
          rw [List.mem_singleton.mp hc]
          exact signs3_ok _ (atI_mem e6)
        have l1 := cutS_length y none (some 30)
        have l2 := cutS_length y (some 30) none
        have tl : ("~" : Str).length = 1 := by decide +kernel
        have z1l : ((cutS y none (some 30) ++ ⟨#[c6]⟩) ++ cutS y (some 30) none).length ≤ 400 := by
          rw [len_add, len_add, len_one]
          omega
        have t1 : Tk ((cutS y none (some 30) ++ ⟨#[c6]⟩) ++ cutS y (some 30) none) := ⟨z1l, tk_add (tk_add (tk_cut yt.2) o1) (tk_cut yt.2)⟩
        have t2 : Tk (y ++ "~") := ⟨by rw [len_add, tl]; omega, tk_add yt.2 (by decide +kernel)⟩
        refine ⟨_, rfl, _, rfl, g, gs, k5, _, rfl, rfl, SqT.of eg6, e5, 30, rfl, y, rfl, ys, _, rfl, _, _, rfl, rfl, ?_, _, rfl, _, rfl, g, gs, k5, _, rfl, rfl, SqT.of eg6, e5, 30, rfl, y, rfl, ys, _, _, rfl, rfl, ?_, ?_⟩
        · rw [len_one, sizeLine_eq]
          omega
        · rw [len_add, len_one, sizeLine_eq]
          omega
        generalize (cutS y none (some 30) ++ ⟨#[c6]⟩) ++ cutS y (some 30) none = z1 at t1
        refine ⟨_, rfl, _, rfl, g, gs, k5, _, rfl, rfl, SqT.of eg6, e5, (by show 1 ≤ sizeLine; decide), fun l hl => ?_⟩
        have m1 := same_new (o := .lst [V.str y]) hl
        have eg7 := m1 _ _ eg6
        have nl : l ≠ p := hP6.lt_new hl
        have hP7 := hP6.new (o := .lst [V.str y]) hl
        refine ⟨_, rfl, _, rfl, g, gs, k5, _, rfl, rfl, SqT.of eg7, e5, (by show 1 ≤ sizeLine; decide), fun t ht => ?_⟩
        have m2 := same_new (o := .tup [V.str y]) ht
        have eg8 := m2 _ _ eg7
        have nt : t ≠ p := hP7.lt_new ht
        have hP8 := hP7.new (o := .tup [V.str y]) ht
        refine ⟨_, rfl, _, rfl, g, gs, k5, _, rfl, rfl, SqT.of eg8, e5, _, _, rfl, rfl, (by rw [tl, sizeLine_eq]; omega), (by show 7 ≤ sizeLine; decide), fun O hO => ?_⟩
        have m3 := same_new (o := .lst [V.str z1, V.non, V.int 5, V.bl true, V.ref l, V.ref t, V.str (y ++ "~")]) hO
        have nO : O ≠ p := hP8.lt_new hO
        have hP9 := hP8.new (o := .lst [V.str z1, V.non, V.int 5, V.bl true, V.ref l, V.ref t, V.str (y ++ "~")]) hO
        have eg9 := m3 _ _ eg8
        have el9 := m3 _ _ (m2 l _ upd_same)
        have et9 := m3 t _ upd_same
        have eO9 := (upd_same : (upd (upd (upd H6 l (.lst [V.str y])) t (.tup [V.str y])) O (.lst [V.str z1, V.non, V.int 5, V.bl true, V.ref l, V.ref t, V.str (y ++ "~")])) O = _)
        have k9 : Kp p H _ := k6'.trans (sameKp ((m1.trans m2).trans m3))
        clear m1 m2 m3 hP7 hP8 eg7 eg8 hO ht
        revert eg9 el9 et9 eO9 k9 hP9
        generalize upd (upd (upd H6 l (.lst [V.str y])) t (.tup [V.str y])) O (.lst [V.str z1, V.non, V.int 5, V.bl true, V.ref l, V.ref t, V.str (y ++ "~")]) = H9
        intro hP9 eg9 el9 et9 eO9 k9
        -- bent
        have ca := cutV_length gs none (some k5)
        have cb := cutV_length gs (some (k5 + 1)) none
        have g13 : gs.length ≤ 13 := by omega
        refine ⟨_, rfl, _, rfl, k5, rfl, slA_any (SqT.of eg9) fun c1 H10 sq1 s10 => ?_⟩
        have hP10 := hP9.keep' s10
        refine ⟨_, rfl, _, rfl, p, L, ns, _, 7, rfl, hP10, (by decide), (by decide), (by omega), fun k11 H11 k110 k111 hP11 b11 => ?_⟩
        have kk11 : Kp p H9 H11 := (sameKp s10).trans b11.kp
        obtain ⟨x, e11, hx⟩ := listAt (xs := [V.str z1, V.non, V.int 5, V.bl true, V.ref l, V.ref t, V.str (y ++ "~")]) k110 k111
        have ix : It p H9 x := by
          simp only [List.mem_cons, List.not_mem_nil, or_false] at hx
          rcases hx with rfl | rfl | rfl | rfl | rfl | rfl | rfl
          · exact .str t1
          · exact .non
          · exact .five
          · exact .tru
          · exact .lst yt el9 nl
          · exact .tup yt et9 nt
          · exact .str t2
        refine ⟨O, _, _, x, rfl, rfl, SqL.of (kk11 _ _ eO9 nO), e11, (by show 1 ≤ sizeLine; decide), fun c2 hc2 => ?_⟩
        have s12 := same_new (o := .tup [x]) hc2
        refine cat_any (sqT_same s12 (Pen.sq hP10 b11.kp sq1)) (SqT.of upd_same) (by rw [sizeLine_eq]; show (cutV gs none (some k5)).length + 1 ≤ _; omega) fun c3 H13 sq3 s13 => ?_
        have kk13 : Kp p H9 H13 := (kk11.trans (sameKp s12)).trans (sameKp s13)
        have hP13 := (hP11.new (o := .tup [x]) hc2).keep' s13
        refine ⟨_, rfl, _, rfl, _, _, rfl, rfl, k5 + 1, rfl, ?_⟩
        unfold tNoPart
        refine slA_any (SqT.of (kk13 _ _ eg9 ng)) fun c4 H14 sq4 s14 => ?_
        refine cat_any (sqT_same s14 sq3) sq4 (by rw [List.length_append, sizeLine_eq]; show (cutV gs none (some k5)).length + 1 + _ ≤ _; omega) fun c5 H15 sq5 s15 => ?_
        have kk15 : Kp p H9 H15 := (kk13.trans (sameKp s14)).trans (sameKp s15)
        have hP15 := (hP13.keep' s14).keep' s15
        -- the menu
        refine ⟨_, rfl, _, rfl, _, rfl, _, rfl, _, rfl, g, gs, rfl, .inr (SqT.of (kk15 _ _ eg9 ng)), fun lg hlg => ?_⟩
        have s16 := same_new (o := .lst gs) hlg
        have hP16 := hP15.new (o := .lst gs) hlg
        have nlg : lg ≠ p := hP15.lt_new hlg
        have kk16 := kk15.trans (sameKp s16)
        refine ⟨_, rfl, _, rfl, g, gs, k5, _, rfl, rfl, SqT.of (kk16 _ _ eg9 ng), e5, _, rfl, (by show 1 ≤ sizeLine; decide), fun c6 hc6 => ?_⟩
        have s17 := same_new (o := .tup [V.str ("" : Str)]) hc6
        have hP17 := hP16.new (o := .tup [V.str ("" : Str)]) hc6
        have kk17 := kk16.trans (sameKp s17)
        refine cat_any (SqT.of (kk17 _ _ eg9 ng)) (SqT.of upd_same) (by rw [sizeLine_eq]; show gs.length + 1 ≤ _; omega) fun c7 H18 sq7 s18 => ?_
        have hP18 := hP17.keep' s18
        refine ⟨(by show 7 ≤ sizeLine; decide), fun M hM => ?_⟩
        have s19 := same_new (o := .lst [V.ref g, V.ref g, V.ref c5, V.ref c5, V.ref lg, V.str y, V.ref c7]) hM
        have nM : M ≠ p := hP18.lt_new hM
        have hP19 := hP18.new (o := .lst [V.ref g, V.ref g, V.ref c5, V.ref c5, V.ref lg, V.str y, V.ref c7]) hM
        refine ⟨_, rfl, p, L, ns, _, 7, rfl, hP19, (by decide), (by decide), (by omega), fun k20 H20 k200 k201 hP20 b20 => ?_⟩
        obtain ⟨v, e20, hv⟩ := listAt (xs := [V.ref g, V.ref g, V.ref c5, V.ref c5, V.ref lg, V.str y, V.ref c7]) k200 k201
        refine ⟨M, _, _, v, rfl, rfl, SqL.of ((b20 M nM).trans upd_same), e20, ?_⟩
        have q18 : Kp p H18 H20 := (sameKp s19).trans b20.kp
        have q16 : Kp p _ H20 := ((sameKp s17).trans (sameKp s18)).trans q18
        have q15 : Kp p H15 H20 := (sameKp s16).trans q16
        have q9 : Kp p H9 H20 := kk15.trans q15
        refine q v H20 ?_ (hP20.up (by omega)) (k9.trans q9)
        have gok : ∀ x ∈ gs, ItemOk K H20 x := fun x hx => by
          obtain ⟨z, rfl, _, hz⟩ := gi x hx
          exact it_str hz
        have t0 : Tk ("" : Str) := ⟨by decide +kernel, by decide +kernel⟩
        have iG : Tg K H20 (.ref g) := .tup (SqT.of (q9 _ _ eg9 ng)) gok (by omega)
        have iB : Tg K H20 (.ref c5) := by
          refine .tup (Pen.sq hP15 q15 sq5) (fun u hu => ?_) ?_
          · rcases List.mem_append.mp hu with hu | hu
            · rcases List.mem_append.mp hu with hu | hu
              · exact gok u (cut_mem hu)
              · rw [List.mem_singleton.mp hu]
                exact (ix.kp q9).ok
            · exact gok u (cut_mem hu)
          · rw [List.length_append, List.length_append]
            show (cutV gs none (some k5)).length + 1 + _ ≤ _
            omega
        simp only [List.mem_cons, List.not_mem_nil, or_false] at hv
        rcases hv with rfl | rfl | rfl | rfl | rfl | rfl | rfl
        · exact iG
        · exact iG
        · exact iB
        · exact iB
        · exact .lst (q16 _ _ upd_same nlg) gok (by omega)
        · exact .str yt
        · refine .tup (Pen.sq hP18 q18 sq7) (fun u hu => ?_) ?_
          · rcases List.mem_append.mp hu with hu | hu
            · exact gok u hu
            · rw [List.mem_singleton.mp hu]
              exact it_str t0
          · rw [List.length_append]
            show gs.length + 1 ≤ _
            omega
/-! ### the law -/
theorem r70 {k : Nat} {A : Around} (r : Room k A) : A.units + 70 < cLine := by
  have := r.un
  omega
theorem sqL_by {H H' : Hp} {a : Addr} {xs : List V} (h : SqL K H a xs) (k1 : ∀ o, H a = some (.lst o) → H' a = some (.lst o)) (k2 : ∀ o u, H a = some (.frz o u) → H' a = some (.frz o u)) : SqL K H' a xs := by
  rcases h with (h | ⟨o, h⟩) | h
  · exact .inl (.inl (k1 _ h))
  · exact .inl (.inr ⟨o, k2 _ _ h⟩)
  · exact .inr h
theorem sqL_same {H H' : Hp} {a : Addr} {xs : List V} (s : Same H H') (h : SqL K H a xs) : SqL K H' a xs := sqL_by h (fun _ e => s _ _ e) fun _ _ e => s _ _ e
theorem sqL_tab2 {P1 P2 : Addr} {H H' : Hp} {a : Addr} {xs : List V} (g1 : TabG H P1) (g2 : TabG H P2) (t : Tab2 P1 P2 H H') (h : SqL K H a xs) : SqL K H' a xs :=
  sqL_by h (fun _ e => t.kt _ _ e (ne_tab g1 e fun _ q => nomatch q) (ne_tab g2 e fun _ q => nomatch q)) fun _ _ e => t.kt _ _ e (ne_tab g1 e fun _ q => nomatch q) (ne_tab g2 e fun _ q => nomatch q)
theorem Pen.tab2 {H H' : Hp} {p L P1 P2 : Addr} {ns : List Int} {n : Nat} (h : Pen H p L ns n) (g1 : TabG H P1) (g2 : TabG H P2) (t : Tab2 P1 P2 H H') : Pen H' p L ns n := by
  obtain ⟨⟨a, r, h1, h2, h3⟩, h4, h5⟩ := h
  exact ⟨⟨a, r, t.kt _ _ h1 (ne_tab g1 h1 fun _ q => nomatch q) (ne_tab g2 h1 fun _ q => nomatch q), h2, h3⟩, t.kt _ _ h4 (ne_tab g1 h4 fun _ q => nomatch q) (ne_tab g2 h4 fun _ q => nomatch q), h5⟩
/-- one answer, at all heaps that keep -/
theorem Tg.ls2 {H : Hp} {v : V} (h : Tg K H v) : ∃ b, Ls K H v b ∧ ∀ H', (∀ a xs, SqT K H a xs → SqT K H' a xs) → (∀ a xs, H a = some (.lst xs) → H' a = some (.lst xs)) → (∀ x, Ok1 H x → Ok1 H' x) → Ls K H' v b := by
  cases h with
  | tup e h l => exact ⟨_, .tup e fun x hx => (h x hx).1, fun H' kt kl k1 => .tup (kt _ _ e) fun x hx => k1 x (h x hx).1⟩
  | lst e h l => exact ⟨_, no_lst e, fun H' kt kl k1 => no_lst (kl _ _ e)⟩
  | str h => exact ⟨_, no_str, fun H' kt kl k1 => no_str⟩
  | non => exact ⟨_, no_non, fun H' kt kl k1 => no_non⟩
def spLaw (K : PySem.W.Frag) (P1 P2 : Addr) : Sp := fun vs H Q _ => ∃ (a : Addr) (ns : List Int), vs = [.ref a] ∧ SqL K H a (ns.map V.int) ∧ ns.length ≤ 63 ∧ TabG H P1 ∧ TabG H P2 ∧ ∀ H', Q (.bl true) H'
theorem ok_law {f : Addr} {fd : FuncData} {P1 P2 : Addr} (F : FnP K "law" slaw f fd) (T : Txt mg) (D_law_pen : Dn P w K mg base 1 "_law_pen" ["script"] (spPen K)) (D_law_draw : Dn P w K mg base 1 "_law_draw" ["pen", "many"] spDraw)
    (D_law_thing : Dn P w K mg base 3 "_law_thing" ["pen"] (spThing K)) (D_law_is : Dn P w K mg base 1 "_law_is" ["thing"] (spIsL K)) (D_is_lines : Dn P w K mg base 6 "is_lines" ["thing"] (spLines K P1 P2)) : FnG P w K mg base 7 f fd ["script"] (spLaw K P1 P2) := by
  refine okG F sclaw (fun vs H Q E h => ?_) (fun cdv A outer s H vs Q E hgd hr h => ?_)
  · obtain ⟨a, ns, rfl, _⟩ := h
    rfl
  · obtain ⟨a, ns, rfl, hS, hl, hG1, hG2, q⟩ := h
    refine ⟨_, (pss_cons (ps_set (i := 1) sclaw.nd rfl (Or.inl rfl) (pe_dn D_law_pen (hr.mono (by decide)) rfl (pa_cons (pv 0) pa_nil)))
      (pss_cons (ps_for PassesOwn.never rfl (pi_range1 rfl T.m_range (pa_cons (pe_op op_add pe_int (pe_dn D_law_draw (hr.mono (by decide)) rfl (pa_cons (pv 1) (pa_cons pe_int pa_nil)))) pa_nil)) (pg_name (i := 2) sclaw.nd rfl (Or.inl rfl)) (pss_cons (ps_set (i := 3) sclaw.nd rfl (Or.inl rfl) (pe_dn D_law_thing (hr.mono (by decide)) rfl (pa_cons (pv 1) pa_nil)))
      (pss_cons (ps_set (i := 4) sclaw.nd rfl (Or.inl rfl) (pe_callB (call_reprV hgd (r70 hr)) (by rfl) T.m_repr (by decide +kernel) (pa_cons (pv 3) pa_nil)))
      (pss_cons (ps_set (i := 5) sclaw.nd rfl (Or.inl rfl) (pe_dn D_is_lines (hr.mono (by decide)) rfl (pa_cons (pv 3) pa_nil)))
      (pss_one (ps_if (PW.pt (pw_or (pt_not (pt_val (pe_callB call_isi (by rfl) T.m_isinstance (by decide +kernel) (pa_cons (pv 5) (pa_cons (pe_bltn (v := .ty "bool") (u := .type "bool") rfl T.m_bool (by decide +kernel) rfl) pa_nil))))) (pw_or (pt_cmpR op_ne (pv 5) (pe_dn D_law_is (hr.mono (by decide)) rfl (pa_cons (pv 3) pa_nil)) (nomark _)) (pw_or1 (pt_cmpR op_ne (pe_callB (call_reprV hgd (r70 hr)) (by rfl) T.m_repr (by decide +kernel) (pa_cons (pv 3) pa_nil)) (pv 4) (nomark _)))))) (pss_one (ps_ret pe_bl)) pss_nil))))))
      (pss_one (ps_ret (pe_and (pe_cmpR op_isBl (pe_dn D_is_lines (hr.mono (by decide)) rfl (pa_cons (pe_tup pa_nil) pa_nil)) pe_bl (nomark _)) (pe_one (pe_cmpR op_isBl (pe_dn D_is_lines (hr.mono (by decide)) rfl (pa_cons (pe_tup (pa_cons pe_str pa_nil)) pa_nil)) pe_bl (nomark _)))))))), ?_⟩
    refine ⟨_, rfl, a, ns, rfl, hS, hl, fun p L H1 np nL hP1 s1 => ?_⟩
    have g1 := tabSame hG1 s1
    have g2 := tabSame hG2 s1
    refine ⟨_, rfl, p, L, ns, 0, 26, rfl, hP1, (by decide), (by decide), (by decide), fun k0 H2 k00 k01 hP2 b2 => ?_⟩
    refine ⟨_, _, rfl, rfl, 5 + k0, rfl, (by omega), (by omega), ?_⟩
    refine for_range (lo := 0) (n := (5 + k0).toNat) (fun i σ H3 => ∃ v2 v3 v4 v5 : Option V, σ = [some (.ref a), some (.ref p), v2, v3, v4, v5] ∧ Pen H3 p L ns (1 + 60 * i) ∧ TabG H3 P1 ∧ TabG H3 P2) ?_ ?_ ?_
    · exact ⟨none, none, none, none, rfl, hP2, hP1.tab g1 b2.kp, hP1.tab g2 b2.kp⟩
    · rintro i σ H3 hi ⟨v2, v3, v4, v5, rfl, hP3, t1, t2⟩
      -- thing
      refine ⟨_, rfl, p, L, ns, _, rfl, hP3, (by omega), fun v H4 hv hP4 k4 => ?_⟩
      have t1 := hP3.tab t1 k4
      have t2 := hP3.tab t2 k4
      -- kept
      obtain ⟨z, hz⟩ := hv.rp
      obtain ⟨b, hb, hbk⟩ := hv.ls2
      refine ⟨_, rfl, v, z, rfl, hz, ?_⟩
      -- found
      refine ⟨_, rfl, v, b, rfl, hb, t1, t2, fun H5 h5 => ?_⟩
      have kt5 : ∀ a xs, SqT K H4 a xs → SqT K H5 a xs := fun a xs e => sqT_tab2 t1 t2 h5 e
      have kl5 : ∀ a xs, SqL K H4 a xs → SqL K H5 a xs := fun a xs e => sqL_tab2 t1 t2 h5 e
      refine ⟨_, rfl, .bl b, .ty "bool", _, .type "bool", true, rfl, .ty "bool", .base (.bl _), kit_ty (by decide +kernel), _, rfl, iteF ?_⟩
      have hb5 : Ls K H5 v b := hbk H5 kt5 (fun _ _ e => h5.kt _ _ e (ne_tab t1 e fun _ q => nomatch q) (ne_tab t2 e fun _ q => nomatch q)) fun x hx => ok1_tab2 hx t1 t2 h5
      refine ⟨_, rfl, _, rfl, v, b, rfl, hb5, fun H6 s6 => ⟨rfl, _, rfl, iteNS rfl ?_⟩⟩
      refine ⟨_, rfl, v, z, rfl, (hz.keep kl5 kt5).keep (fun _ _ e => sqL_same s6 e) (fun _ _ e => sqT_same s6 e), ?_⟩
      refine ⟨_, rfl, rfl, _, rfl, iteNS rfl ?_⟩
      exact ⟨_, _, _, _, rfl, ((Pen.tab2 hP4 t1 t2 h5).keep' s6).up (by omega), tabSame h5.1 s6, tabSame h5.2.1 s6⟩
    · rintro σ H3 ⟨v2, v3, v4, v5, rfl, hP3, t1, t2⟩
      refine ⟨(by show 0 ≤ sizeLine; decide), fun c hc => ?_⟩
      have s4 := same_new (o := .tup []) hc
      refine ⟨_, true, rfl, .tup (SqT.of upd_same) (fun x hx => nomatch hx), tabSame t1 s4, tabSame t2 s4, fun H5 h5 => ?_⟩
      refine ⟨true, true, rfl, rfl, _, rfl, ?_⟩
      refine iteT ?_
      refine ⟨(by show 1 ≤ sizeLine; decide), fun d hd => ?_⟩
      have s6 := same_new (o := .tup [V.str ("" : Str)]) hd
      have e1 : lineV (.str ("" : Str)) = true := by decide +kernel
      refine ⟨_, _, rfl, .tup (SqT.of upd_same) (fun x hx => ?_), tabSame h5.1 s6, tabSame h5.2.1 s6, fun H7 h7 => ?_⟩
      · rw [List.mem_singleton.mp hx]
        exact ok_str (by decide +kernel)
      · rw [List.all_cons, e1]
        exact ⟨true, true, rfl, rfl, q H7⟩
end
/-! ### the head -/
def dOf (x : Str) (st : Stmt) : He.DefD := ⟨(x, none), x, x, defArgs st, defBody st, defScope st, [], []⟩
def fn : List He.DefD := [dOf "is_tuple_within" sis_tuple_within, dOf "is_sign" sis_sign, dOf "is_text" sis_text, dOf "is_line" sis_line, dOf "is_lines" sis_lines, dOf "_law_pen" slaw_pen, dOf "_law_draw" slaw_draw, dOf "_law_is" slaw_is, dOf "_law_line" slaw_line, dOf "_law_thing" slaw_thing, dOf "law" slaw]
def fa : List He.Fa := [.glo "is_tuple_within", .glo "is_sign", .glo "is_text", .glo "is_line", .glo "is_lines", .glo "_law_pen", .glo "_law_draw", .glo "_law_is", .glo "_law_line", .glo "_law_thing", .glo "law", .free "len", .free "all", .free "bool", .free "isinstance", .free "list", .free "range", .free "str", .free "int", .free "max", .free "ord", .free "repr", .free "tuple", .glo "BARRED_CODES", .int "LONGEST_LINE" 60, .int "MOST_LINES" 12]
def tf : List He.Defn := [("is_text", none), ("is_lines", none)]
def ex : PySem.W.Frag → Bool := fun K => He.tupB K "BARRED_CODES" [.int 37, .int 92]
def ts : List He.Tab := []
abbrev R : PySem.W.OpenRow := PySem.W.OpenLaw.row PySem.Challenge.rw_mastershow_k03_what_are_lines
abbrev hk : PySem.W.Hook := He.hookX 4 fa fn ts tf ex
def ob (s : PySem.W.SharedT) : He.AlX := He.obsX 4 fa fn ts tf ex (HandSHeadRun.getT s)
theorem ob_eq (s : PySem.W.SharedT) : ob s = hk.obs s.abs := He.obsX_eq (HandSHeadRun.getT_eq s)
theorem run (w : World) : HandSHeadRun.RunEq R (PySem.W.view R.prog [16]) hk ob 1500 ["is_tuple_within", "BARRED_CODES", "LONGEST_LINE", "MOST_LINES", "is_sign", "is_text", "is_line", "is_lines", "_law_pen", "_law_draw", "_law_is", "_law_line", "_law_thing"] w := by
  intro os
  kernel_rfl
theorem dn {P : Program} {w : World} {K : PySem.W.Frag} {mg : Str → Option Value} {base : Heap} {k : Nat} {x : Str} {ps : List Str} {sp : Sp} {st : Stmt} {fd : FuncData} (F : FnP K x st (He.fAd K (x, none)) fd) (hm : mg x = some (.ref (He.ga K x)))
    (b : Binds K fd ps []) (h : FnOk P w K mg base CX0 k (He.fAd K (x, none)) fd ps sp) : Dn P w K mg base k x ps sp := ⟨_, fd, hm, F.kp, b, h⟩
theorem facts {w : World} {K : PySem.W.Frag} {h : Heap} {mg : Str → Option Value} {f : Addr} (X : K.In h) (G : h.Ns mainGlobals mg) (hfa : mg ("law" : Str) = some (.ref f)) (c : He.SaysX fa fn ts tf ex w h K) :
    Gr.LawG PySem.Challenge.rw_mastershow_k03_what_are_lines w K 7 63 "script" mg f h := by
  have cd := c.t.d
  obtain ⟨fd0, F0⟩ := cd.def_ 0 (d := dOf "is_tuple_within" sis_tuple_within) rfl
  have F0 : FnP K "is_tuple_within" sis_tuple_within (He.fAd K ("is_tuple_within", none)) fd0 := F0
  obtain ⟨fd1, F1⟩ := cd.def_ 1 (d := dOf "is_sign" sis_sign) rfl
  have F1 : FnP K "is_sign" sis_sign (He.fAd K ("is_sign", none)) fd1 := F1
  obtain ⟨fd2, F2⟩ := cd.def_ 2 (d := dOf "is_text" sis_text) rfl
  have F2 : FnP K "is_text" sis_text (He.fAd K ("is_text", none)) fd2 := F2
  obtain ⟨fd3, F3⟩ := cd.def_ 3 (d := dOf "is_line" sis_line) rfl
  have F3 : FnP K "is_line" sis_line (He.fAd K ("is_line", none)) fd3 := F3
  obtain ⟨fd4, F4⟩ := cd.def_ 4 (d := dOf "is_lines" sis_lines) rfl
  have F4 : FnP K "is_lines" sis_lines (He.fAd K ("is_lines", none)) fd4 := F4
  obtain ⟨fd5, F5⟩ := cd.def_ 5 (d := dOf "_law_pen" slaw_pen) rfl
  have F5 : FnP K "_law_pen" slaw_pen (He.fAd K ("_law_pen", none)) fd5 := F5
  obtain ⟨fd6, F6⟩ := cd.def_ 6 (d := dOf "_law_draw" slaw_draw) rfl
  have F6 : FnP K "_law_draw" slaw_draw (He.fAd K ("_law_draw", none)) fd6 := F6
  obtain ⟨fd7, F7⟩ := cd.def_ 7 (d := dOf "_law_is" slaw_is) rfl
  have F7 : FnP K "_law_is" slaw_is (He.fAd K ("_law_is", none)) fd7 := F7
  obtain ⟨fd8, F8⟩ := cd.def_ 8 (d := dOf "_law_line" slaw_line) rfl
  have F8 : FnP K "_law_line" slaw_line (He.fAd K ("_law_line", none)) fd8 := F8
  obtain ⟨fd9, F9⟩ := cd.def_ 9 (d := dOf "_law_thing" slaw_thing) rfl
  have F9 : FnP K "_law_thing" slaw_thing (He.fAd K ("_law_thing", none)) fd9 := F9
  obtain ⟨fd10, F10⟩ := cd.def_ 10 (d := dOf "law" slaw) rfl
  have F10 : FnP K "law" slaw (He.fAd K ("law", none)) fd10 := F10
  have e := hfa.symm.trans (He.glo_ok X G (cd.fact 10 (f := .glo "law") rfl))
  cases e
  have T : Txt mg := ⟨He.free_ok X G (cd.fact 11 (f := .free "len") rfl),
    He.free_ok X G (cd.fact 12 (f := .free "all") rfl),
    He.free_ok X G (cd.fact 13 (f := .free "bool") rfl),
    He.free_ok X G (cd.fact 14 (f := .free "isinstance") rfl),
    He.free_ok X G (cd.fact 15 (f := .free "list") rfl),
    He.free_ok X G (cd.fact 16 (f := .free "range") rfl),
    He.free_ok X G (cd.fact 17 (f := .free "str") rfl),
    He.free_ok X G (cd.fact 18 (f := .free "int") rfl),
    He.free_ok X G (cd.fact 19 (f := .free "max") rfl),
    He.free_ok X G (cd.fact 20 (f := .free "ord") rfl),
    He.free_ok X G (cd.fact 21 (f := .free "repr") rfl),
    He.free_ok X G (cd.fact 22 (f := .free "tuple") rfl)⟩
  have g_BARRED_CODES := He.glo_ok X G (cd.fact 23 (f := .glo "BARRED_CODES") rfl)
  obtain ⟨t_gL, gL⟩ := He.int_ok X G (cd.fact 24 (f := .int "LONGEST_LINE" 60) rfl)
  obtain ⟨t_gM, gM⟩ := He.int_ok X G (cd.fact 25 (f := .int "MOST_LINES" 12) rfl)
  have tB : ∀ H, SqT K H (He.ga K "BARRED_CODES") BAR := fun H => He.tupB_ok (vs := [.int 37, .int 92]) c.more H
  have b0 := F0.bindsN (ps := ["thing", "least", "most"]) fun _ _ _ _ _ _ us hl => match us, hl with | [_, _, _], _ => rfl
  have b1 := F1.bindsN (ps := ["sign"]) fun _ _ _ _ _ _ us hl => match us, hl with | [_], _ => rfl
  have b2 := F2.bindsN (ps := ["thing", "longest"]) fun _ _ _ _ _ _ us hl => match us, hl with | [_, _], _ => rfl
  have b3 := F3.bindsN (ps := ["thing"]) fun _ _ _ _ _ _ us hl => match us, hl with | [_], _ => rfl
  have b4 := F4.bindsN (ps := ["thing"]) fun _ _ _ _ _ _ us hl => match us, hl with | [_], _ => rfl
  have b5 := F5.bindsN (ps := ["script"]) fun _ _ _ _ _ _ us hl => match us, hl with | [_], _ => rfl
  have b6 := F6.bindsN (ps := ["pen", "many"]) fun _ _ _ _ _ _ us hl => match us, hl with | [_, _], _ => rfl
  have b7 := F7.bindsN (ps := ["thing"]) fun _ _ _ _ _ _ us hl => match us, hl with | [_], _ => rfl
  have b8 := F8.bindsN (ps := ["pen"]) fun _ _ _ _ _ _ us hl => match us, hl with | [_], _ => rfl
  have b9 := F9.bindsN (ps := ["pen"]) fun _ _ _ _ _ _ us hl => match us, hl with | [_], _ => rfl
  have b10 := FunD.bindsA (ps := ["script"]) F10 fun _ _ _ _ _ _ us hl => match us, hl with | [_], _ => rfl
  refine ⟨fd10, [He.cT K ("is_text", none), He.cT K ("is_lines", none)], spLaw K (He.cT K ("is_text", none)).2 (He.cT K ("is_lines", none)).2, ?_, ?_, ?_, fun s v => b10 s [v] rfl, ?_, ?_⟩
  · intro p hp
    obtain ⟨d, hd, rfl⟩ := (List.mem_map.mp (show p ∈ tf.map (fun d => He.cT K d) from hp))
    exact c.empty d hd
  · intro p hp
    obtain ⟨d, hd, rfl⟩ := (List.mem_map.mp (show p ∈ tf.map (fun d => He.cT K d) from hp))
    exact c.out d hd
  · intro p hp
    obtain ⟨d, hd, rfl⟩ := (List.mem_map.mp (show p ∈ tf.map (fun d => He.cT K d) from hp))
    exact PySem.W.codeHd_of_K X (c.hd d hd)
  · intro H a ns hl hT hS
    exact ⟨a, ns, rfl, hS, hl, ⟨#[], hT _ (List.mem_cons_self), (by first | exact triples_nil | simp [TriplesOk])⟩, ⟨#[], hT _ (List.mem_cons_of_mem _ (List.mem_cons_self)), (by first | exact triples_nil | simp [TriplesOk])⟩, fun _ => rfl⟩
  · intro base _ _ hB
    have B0 := hB _ (List.mem_cons_self)
    have T0 : GxR.TabB base mg (He.codeOf K ("is_text", none)) (He.cT K ("is_text", none)).2 := ⟨B0.code, B0.bm, B0.gP⟩
    have B1 := hB _ (List.mem_cons_of_mem _ (List.mem_cons_self))
    have T1 : GxR.TabB base mg (He.codeOf K ("is_lines", none)) (He.cT K ("is_lines", none)).2 := ⟨B1.code, B1.bm, B1.gP⟩
    have D0 := dn F0 (He.glo_ok X G (cd.fact 0 (f := .glo "is_tuple_within") rfl)) b0 (ok_tupw (P := (PySem.Challenge.rw_mastershow_k03_what_are_lines).prog) (w := w) (base := base) F0 T)
    have D1 := dn F1 (He.glo_ok X G (cd.fact 1 (f := .glo "is_sign") rfl)) b1 (ok_sign (P := (PySem.Challenge.rw_mastershow_k03_what_are_lines).prog) (w := w) (base := base) F1 T g_BARRED_CODES tB)
    have D2 := dn F2 (He.glo_ok X G (cd.fact 2 (f := .glo "is_text") rfl)) b2 (ok_textQ F2 T T0 D1)
    have D3 := dn F3 (He.glo_ok X G (cd.fact 3 (f := .glo "is_line") rfl)) b3 (ok_lineQ F3 gL D2)
    have D4 := dn F4 (He.glo_ok X G (cd.fact 4 (f := .glo "is_lines") rfl)) b4 (ok_lines F4 T T1 gM D0 D3)
    have D5 := dn F5 (He.glo_ok X G (cd.fact 5 (f := .glo "_law_pen") rfl)) b5 (ok_pen (P := (PySem.Challenge.rw_mastershow_k03_what_are_lines).prog) (w := w) (base := base) F5 T)
    have D6 := dn F6 (He.glo_ok X G (cd.fact 6 (f := .glo "_law_draw") rfl)) b6 (ok_draw (P := (PySem.Challenge.rw_mastershow_k03_what_are_lines).prog) (w := w) (base := base) F6 T)
    have D7 := dn F7 (He.glo_ok X G (cd.fact 7 (f := .glo "_law_is") rfl)) b7 (ok_isL (P := (PySem.Challenge.rw_mastershow_k03_what_are_lines).prog) (w := w) (base := base) F7 T)
    have D8 := dn F8 (He.glo_ok X G (cd.fact 8 (f := .glo "_law_line") rfl)) b8 (ok_lineL F8 T D6)
    have D9 := dn F9 (He.glo_ok X G (cd.fact 9 (f := .glo "_law_thing") rfl)) b9 (ok_thing F9 T D6 D8)
    exact ok_law F10 T D5 D6 D9 D7 D4
end K3
open PySem PySem.W PySem.Calls PyProof.Rows
set_option maxRecDepth 100000 in
set_option maxHeartbeats 0 in
theorem PySem.Challenge.cw_mastershow_k03_what_are_lines_holds : PySem.Challenge.rw_mastershow_k03_what_are_lines.Holds := by
  w_on; o_law
  refine HandSHeadRun.head_any (r := OpenLaw.row PySem.Challenge.rw_mastershow_k03_what_are_lines) (q := view (OpenLaw.row PySem.Challenge.rw_mastershow_k03_what_are_lines).prog [16]) (H := K3.hk) (ob := K3.ob) (M := 1500) (loose := ["is_tuple_within", "BARRED_CODES", "LONGEST_LINE", "MOST_LINES", "is_sign", "is_text", "is_line", "is_lines", "_law_pen", "_law_draw", "_law_is", "_law_line", "_law_thing"]) (d := HandSHeadRun.topDef (OpenLaw.row PySem.Challenge.rw_mastershow_k03_what_are_lines).prog 16) (kwd := []) K3.ob_eq
    (by kernel_rfl) (fun s => by kernel_rfl) K3.run (by kernel_rfl) (by kernel_rfl) (by kernel_rfl) (by rfl) (by first | assumption | decide +kernel) (by decide +kernel) ⟨rfl, rfl, rfl, rfl, rfl, by decide +kernel⟩ ?hw ?hc
  case hw => w_witness2
  case hc =>
    refine Gr.walkG (l := PySem.Challenge.rw_mastershow_k03_what_are_lines) (n := 63) (k := 7) (x := "script") rfl (by decide) (by kernel_rfl) ⟨rfl, by decide, by decide⟩ ?F
    intro w mg fa h Y G hmg0
    obtain ⟨K, KX, c⟩ := Y
    have hmg : mg ("law" : PySem.Str) = some (.ref fa) := by
      have e : (HandSHeadRun.topDef (OpenLaw.row PySem.Challenge.rw_mastershow_k03_what_are_lines).prog 16).name = ("law" : PySem.Str) := by kernel_rfl
      rw [← e]
      exact hmg0
    exact ⟨K, KX, K3.facts KX G hmg c⟩

